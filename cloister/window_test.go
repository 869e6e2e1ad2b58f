package cloister

import (
	"fmt"
	"slices"
	"testing"

	"cloister/api"
)

// TestP5Ends has each way in which a window ends, with budgets around that step.
func TestP5Ends(t *testing.T) {
	yields := []api.Ins{set(0, 1), set(0, 2), op(api.Yield), jump(0)}
	divides := []api.Ins{set(0, 1), set(0, 2), on(api.Div, 0, 1)}
	ends := []api.Ins{set(0, 1), set(0, 2)}
	for _, x := range []struct {
		what   string
		code   []api.Ins
		budget int
		want   []api.Event
	}{
		{"one ahead of the Yield", yields, 2, []api.Event{closed(2, api.BySteps)}},
		{"at the Yield", yields, 3, []api.Event{closed(3, api.ByYield)}},
		{"behind the Yield", yields, 4, []api.Event{closed(3, api.ByYield)}},
		{"far behind the Yield", yields, 200, []api.Event{closed(3, api.ByYield)}},
		{"one ahead of the break", divides, 2, []api.Event{closed(2, api.BySteps)}},
		{"at the break", divides, 3, []api.Event{broke(api.ByDiv, 1), closed(3, api.ByBreak)}},
		{"behind the break", divides, 4, []api.Event{broke(api.ByDiv, 1), closed(3, api.ByBreak)}},
		{"the last instruction", ends, 2, []api.Event{closed(2, api.BySteps)}},
		{"the step behind it", ends, 3, []api.Event{broke(api.ByEnd, 1), closed(3, api.ByBreak)}},
		{"more than that step", ends, 200, []api.Event{broke(api.ByEnd, 1), closed(3, api.ByBreak)}},
		{"a budget of 1", forever, 1, []api.Event{closed(1, api.BySteps)}},
		{"a Yield with a budget of 1", []api.Ins{op(api.Yield)}, 1, []api.Event{closed(1, api.ByYield)}},
		{"a break with a budget of 1", []api.Ins{on(api.Div, 0, 0)}, 1, []api.Event{broke(api.ByDiv, 1), closed(1, api.ByBreak)}},
		{"a budget of 200", forever, 200, []api.Event{closed(200, api.BySteps)}},
	} {
		for limit := range api.MaxLimit + 1 {
			k := ran(t, alone(limit, []int{x.budget}, x.code...), 1)
			traceIs(t, fmt.Sprintf("%s, limit %d", x.what, limit), k, 0, x.want...)
		}
	}
}

// TestP5GoesOn cuts a program into windows of every size: what it says is the same.
func TestP5GoesOn(t *testing.T) {
	code := []api.Ins{set(1, 1), on(api.Add, 0, 1), on(api.Store, 0, 1), on(api.Load, 2, 1), say(2), jump(1)}
	whole := made(t, alone(0, []int{200}, code...))
	run(t, whole, 1)
	want := saidBy(t, whole, 0)
	if len(want) < 30 {
		t.Fatalf("too little was said: %v", want)
	}
	for budget := 1; budget < 60; budget++ {
		k := made(t, alone(0, []int{budget}, code...))
		for done := 0; done+budget <= 200; done += budget {
			run(t, k, 1)
		}
		got := saidBy(t, k, 0)
		if len(got) < 20 || !slices.Equal(got, want[:len(got)]) {
			t.Errorf("windows of %d steps: said %v, want %v", budget, got, want)
		}
	}
}

// TestP5BehindYield: registers, memory and the instruction behind the Yield are there in the next window, be it of the same row.
func TestP5BehindYield(t *testing.T) {
	code := []api.Ins{set(0, 5), on(api.Store, 0, 1), op(api.Yield), set(2, 0), on(api.Load, 3, 2), say(0), say(3), op(api.Yield)}
	want := []api.Event{closed(3, api.ByYield), said(5), said(5), closed(5, api.ByYield)}
	k := ran(t, alone(0, []int{50}, code...), 2)
	traceIs(t, "two frames", k, 0, want...)
	c := alone(0, []int{50}, code...)
	c.Table[0] = append(c.Table[0], c.Table[0][0])
	traceIs(t, "two windows of a row", ran(t, c, 1), 0, want...)
}

// TestP5BehindBreak: the next window begins at the first instruction again.
func TestP5BehindBreak(t *testing.T) {
	k := ran(t, alone(2, []int{2}, set(0, 7), say(0), on(api.Div, 0, 1), say(0)), 4)
	traceIs(t, "after a break", k, 0,
		said(7), closed(2, api.BySteps), broke(api.ByDiv, 1), closed(1, api.ByBreak),
		said(7), closed(2, api.BySteps), broke(api.ByDiv, 2), closed(1, api.ByBreak))
}

// TestP5Skip: a stopped cell does nothing any more, in later windows of the same row either, and others go on.
func TestP5Skip(t *testing.T) {
	c := api.Config{
		Cells: []api.Cell{{Code: []api.Ins{on(api.Div, 0, 0)}}, {Code: forever}},
		Table: [][]api.Window{{{Cell: 0, Budget: 9}, {Cell: 1, Budget: 7}, {Cell: 0, Budget: 200 - 16}}},
	}
	k := ran(t, c, 3)
	skip := closed(0, api.BySkip)
	traceIs(t, "the stopped one", k, 0, broke(api.ByDiv, 1), closed(1, api.ByBreak), skip, skip, skip, skip, skip)
	traceIs(t, "the other one", k, 1, slices.Repeat([]api.Event{closed(7, api.BySteps)}, 3)...)
	statsAre(t, "the stopped one", k, 0, api.Stats{Steps: 1, Broken: 1, Stopped: true})
}

// TestExamples are the document's first two.
func TestExamples(t *testing.T) {
	code := []api.Ins{set(0, 7), say(0), op(api.Yield)}
	k := made(t, alone(0, []int{10}, code...))
	want := []api.Event{}
	for _, frame := range [][]api.Event{{said(7), closed(3, api.ByYield)}, {broke(api.ByEnd, 1), closed(1, api.ByBreak)}, {closed(0, api.BySkip)}} {
		run(t, k, 1)
		want = append(want, frame...)
		traceIs(t, "the first", k, 0, want...)
	}
	statsAre(t, "the first", k, 0, api.Stats{Steps: 4, Broken: 1, Stopped: true})
	k = ran(t, alone(0, []int{2}, code...), 1)
	traceIs(t, "the second", k, 0, said(7), closed(2, api.BySteps))
	run(t, k, 1)
	traceIs(t, "the second", k, 0, said(7), closed(2, api.BySteps), closed(1, api.ByYield))
}
