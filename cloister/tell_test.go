package cloister

import (
	"reflect"
	"slices"
	"testing"

	"cloister/api"
)

// twins are two cells that do different things.
func twins() api.Config {
	return api.Config{
		Cells: []api.Cell{
			{Code: []api.Ins{set(0, lowest), say(0), op(api.Yield), say(1), on(api.Load, 0, 0)}, Image: []int64{3}, Limit: 1},
			{Code: []api.Ins{set(1, 1), on(api.Add, 0, 1), on(api.Store, 0, 1), say(0), jump(1)}, Image: []int64{7, 8, 9}},
		},
		Table: [][]api.Window{{{Cell: 0, Budget: 20}, {Cell: 1, Budget: 9}}},
	}
}

func TestP8AtFirst(t *testing.T) {
	k := made(t, twins())
	for cell, image := range [][]int64{{3}, {7, 8, 9}} {
		traceIs(t, "at first", k, cell)
		memoryIs(t, "at first", k, cell, image...)
		statsAre(t, "at first", k, cell, api.Stats{})
	}
}

func TestP8Told(t *testing.T) {
	k := ran(t, twins(), 2)
	traceIs(t, "the first", k, 0, said(lowest), closed(3, api.ByYield), said(0), broke(api.ByMemory, 1), closed(2, api.ByBreak))
	traceIs(t, "the second", k, 1, said(1), said(2), closed(9, api.BySteps), said(3), said(4), closed(9, api.BySteps))
	memoryIs(t, "the first", k, 0, 3)
	memoryIs(t, "the second", k, 1, 7, 4, 9)
	statsAre(t, "the first", k, 0, api.Stats{Steps: 5, Broken: 1})
	statsAre(t, "the second", k, 1, api.Stats{Steps: 18})
	run(t, k, 2)
	statsAre(t, "the first, stopped", k, 0, api.Stats{Steps: 10, Broken: 2, Stopped: true})
	run(t, k, 2)
	statsAre(t, "the first, stopped long ago", k, 0, api.Stats{Steps: 10, Broken: 2, Stopped: true})
	statsAre(t, "the second, beside a stopped one", k, 1, api.Stats{Steps: 54})
}

// TestP8Channels: what comes to a cell goes into its memory and its trace, and of what it sends nothing is told.
func TestP8Channels(t *testing.T) {
	first := again(slices.Concat(posts(api.Send, 0, 5), posts(api.Write, 1, -6))...)
	keep := func(n int64, op int, channel int64) []api.Ins {
		return []api.Ins{use(op, 0, 1, channel), set(2, n), on(api.Store, 0, 2), set(2, n+1), on(api.Store, 1, 2)}
	}
	k := made(t, couple(first, again(slices.Concat(keep(1, api.Take, 0), keep(3, api.Read, 1), keep(5, api.Input, 1), []api.Ins{use(api.Lost, 3, 0, 0), say(3)})...)))
	runWith(t, k)
	memoryIs(t, "nothing has come", k, 1, 0, 0, 0, 0, -1)
	runWith(t, k, api.In{Dev: 1, N: 8}, api.In{Dev: 0, N: 9})
	memoryIs(t, "all has come", k, 1, 0, 5, 1, -6, 0, 8, 1)
	runWith(t, k)
	memoryIs(t, "no input", k, 1, 0, 5, 1, -6, 0, 0, 0)
	traceIs(t, "the sender", k, 0, closed(5, api.ByYield), closed(6, api.ByYield), closed(6, api.ByYield))
	traceIs(t, "the other one", k, 1, said(0), closed(18, api.ByYield), said(0), closed(19, api.ByYield), said(0), closed(19, api.ByYield))
	memoryIs(t, "the sender", k, 0)
	statsAre(t, "the sender", k, 0, api.Stats{Steps: 17})
	statsAre(t, "the other one", k, 1, api.Stats{Steps: 56})
}

// TestP8ChannelsBroken: a break is told as ever where a cell has taken and sent.
func TestP8ChannelsBroken(t *testing.T) {
	second := slices.Concat(asking(api.Take, 0), []api.Ins{use(api.Send, 0, 0, 2), on(api.Store, 0, 0), jump(0)})
	c := couple(again(posts(api.Send, 0, 15, 16)...), second)
	c.Table[0][1].Budget = 12
	k := ran(t, c, 1)
	want := []api.Event{said(0), said(0), said(0), said(0), closed(12, api.BySteps)}
	traceIs(t, "ahead of the break", k, 1, want...)
	run(t, k, 1)
	want = append(want, said(15), said(1), said(16), said(1), broke(api.ByMemory, 1), closed(11, api.ByBreak))
	traceIs(t, "at the break", k, 1, want...)
	memoryIs(t, "made anew", k, 1)
	statsAre(t, "made anew", k, 1, api.Stats{Steps: 23, Broken: 1})
}

// TestP8LongTrace: nothing of a trace is dropped.
func TestP8LongTrace(t *testing.T) {
	k := ran(t, alone(0, []int{200}, set(1, 1), on(api.Add, 0, 1), say(0), jump(1)), 600)
	got := saidBy(t, k, 0)
	if len(got) != 40000 {
		t.Fatalf("%d numbers were said", len(got))
	}
	for n, x := range got {
		if x != int64(n)+1 {
			t.Fatalf("number %d is %d", n, x)
		}
	}
	statsAre(t, "a long trace", k, 0, api.Stats{Steps: 120000})
}

// TestP8LogAheadOfBreak: what was said ahead of a break stays in the trace, since nobody else reads it.
func TestP8LogAheadOfBreak(t *testing.T) {
	k := ran(t, alone(0, []int{9}, set(0, 4), say(0), on(api.Div, 0, 1)), 1)
	traceIs(t, "said ahead of a break", k, 0, said(4), broke(api.ByDiv, 1), closed(3, api.ByBreak))
}

func TestP8Image(t *testing.T) {
	for size := range api.Words + 1 {
		image := make([]int64, size)
		for n := range image {
			image[n] = extremes[n%len(extremes)]
		}
		c := alone(0, []int{1}, forever...)
		c.Cells[0].Image = image
		memoryIs(t, "at first", made(t, c), 0, image...)
		memoryIs(t, "after a frame", ran(t, c, 1), 0, image...)
	}
}

func TestP8NoSuchCell(t *testing.T) {
	for cells, c := range map[int]api.Config{1: alone(0, []int{1}, forever...), 2: twins(), 6: fullest()} {
		k := ran(t, c, 3)
		before := lookAll(k, cells)
		for _, n := range append([]int64{-1, int64(cells), int64(cells) + 1}, extremes...) {
			trace, e := k.Trace(int(n))
			memory, f := k.Memory(int(n))
			stats, g := k.Stats(int(n))
			if len(trace) != 0 || len(memory) != 0 || stats != (api.Stats{}) || e != api.ErrNone || f != api.ErrNone || g != api.ErrNone {
				t.Errorf("cell %d of %d: %v and %d, %v and %d, %v and %d", n, cells, trace, e, memory, f, stats, g)
			}
		}
		if after := lookAll(k, cells); !reflect.DeepEqual(after, before) {
			t.Errorf("asked of cells that there are not: %+v became %+v", before, after)
		}
		for cell := range cells {
			if s := look(k, cell); s.e != api.OK || s.f != api.OK || s.g != api.OK {
				t.Errorf("cell %d of %d: %d, %d, %d", cell, cells, s.e, s.f, s.g)
			}
		}
	}
}
