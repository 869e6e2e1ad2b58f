package cloister

import (
	"fmt"
	"slices"
	"testing"

	"cloister/api"
)

// forever never yields and never breaks.
var forever = []api.Ins{jump(0)}

// TestP4Rows has rows that differ in their budgets, so that a window tells its row.
func TestP4Rows(t *testing.T) {
	for rows := 1; rows <= api.MaxRows; rows++ {
		var budgets []int
		for row := range rows {
			budgets = append(budgets, 10+row)
		}
		k := made(t, alone(0, budgets, forever...))
		var want []api.Event
		for frame := range 3*rows + 1 {
			traceIs(t, fmt.Sprintf("%d rows, ahead of frame %d", rows, frame), k, 0, want...)
			run(t, k, 1)
			want = append(want, closed(int64(10+frame%rows), api.BySteps))
		}
	}
}

// TestP4RowWithoutWindows: it is a frame too, in which nobody does anything.
func TestP4RowWithoutWindows(t *testing.T) {
	c := alone(0, []int{1, 1, 2}, forever...)
	c.Table[0], c.Table[2] = nil, []api.Window{}
	k := made(t, c)
	one := closed(1, api.BySteps)
	for _, want := range [][]api.Event{nil, {one}, {one}, {one}, {one, one}, {one, one}} {
		run(t, k, 1)
		traceIs(t, "rows without windows", k, 0, want...)
	}
}

func TestP4NoWindowAtAll(t *testing.T) {
	k := ran(t, least(), 5)
	traceIs(t, "a table without windows", k, 0)
	statsAre(t, "a table without windows", k, 0, api.Stats{})
}

// TestP4WindowsInOrder gives cells several windows in one row.
func TestP4WindowsInOrder(t *testing.T) {
	c := api.Config{
		Cells: []api.Cell{{Code: forever}, {Code: forever}, {Code: forever}},
		Table: [][]api.Window{{{Cell: 2, Budget: 5}, {Cell: 0, Budget: 4}, {Cell: 2, Budget: 3}, {Cell: 2, Budget: 9}, {Cell: 0, Budget: 1}}},
	}
	k := ran(t, c, 2)
	first := []api.Event{closed(4, api.BySteps), closed(1, api.BySteps)}
	last := []api.Event{closed(5, api.BySteps), closed(3, api.BySteps), closed(9, api.BySteps)}
	traceIs(t, "two windows", k, 0, slices.Repeat(first, 2)...)
	traceIs(t, "no window", k, 1)
	traceIs(t, "three windows", k, 2, slices.Repeat(last, 2)...)
}

// TestP4ManyInputs: up to four are taken, of whatever devices; with more nothing happens.
func TestP4ManyInputs(t *testing.T) {
	for _, size := range []int{-1, 0, 1, 4, 5, 6, 1000} {
		k := made(t, alone(0, []int{3, 5}, forever...))
		for _, n := range extremes {
			in := sized[api.In](size)
			for at := range in {
				in[at] = api.In{Dev: int(n), N: n}
			}
			want := api.OK
			if size > api.MaxDevs {
				want = api.ErrMany
			}
			if e := k.Frame(in); e != want {
				t.Errorf("%d inputs of device %d: Frame answers %d, want %d", size, n, e, want)
			}
		}
		frames := 0
		if size <= api.MaxDevs {
			frames = len(extremes)
		}
		if l, _ := k.Trace(0); len(l) != frames {
			t.Errorf("%d inputs: %d frames were run, want %d", size, len(l), frames)
		}
	}
}

// TestP4ManyInputsNothingChanged: a frame that is refused is not counted as a row.
func TestP4ManyInputsNothingChanged(t *testing.T) {
	k := made(t, alone(0, []int{1, 2, 3}, forever...))
	var want []api.Event
	for frame := range 7 {
		for range frame {
			if e := k.Frame(make([]api.In, 5)); e != api.ErrMany {
				t.Errorf("five inputs: Frame answers %d", e)
			}
			traceIs(t, "after a frame that was refused", k, 0, want...)
		}
		run(t, k, 1)
		want = append(want, closed(int64(1+frame%3), api.BySteps))
		traceIs(t, "after refused frames", k, 0, want...)
	}
}
