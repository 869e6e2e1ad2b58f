package cloister

import (
	"fmt"
	"reflect"
	"slices"
	"testing"

	"cloister/api"
)

func op(op int) api.Ins { return api.Ins{Op: op} }

func set(r int, n int64) api.Ins { return api.Ins{Op: api.Set, R: r, N: n} }

func on(op, r, a int) api.Ins { return api.Ins{Op: op, R: r, A: a} }

func say(r int) api.Ins { return api.Ins{Op: api.Log, R: r} }

func jump(n int64) api.Ins { return api.Ins{Op: api.Jump, N: n} }

func zero(r int, n int64) api.Ins { return api.Ins{Op: api.Zero, R: r, N: n} }

func use(op, r, a int, n int64) api.Ins { return api.Ins{Op: op, R: r, A: a, N: n} }

func said(n int64) api.Event { return api.Event{Kind: api.Said, A: n} }

func broke(why, often int64) api.Event { return api.Event{Kind: api.Broke, A: why, B: often} }

func closed(steps, why int64) api.Event { return api.Event{Kind: api.Closed, A: steps, B: why} }

// alone is a config of one cell, with a row of one window for each budget.
func alone(limit int, budgets []int, code ...api.Ins) api.Config {
	c := api.Config{Cells: []api.Cell{{Code: code, Limit: limit}}}
	for _, b := range budgets {
		c.Table = append(c.Table, []api.Window{{Budget: b}})
	}
	return c
}

// couple is two cells with a window each in one row, and with the channels and devices of trio.
func couple(first, second []api.Ins) api.Config {
	c := trio()
	c.Cells = []api.Cell{{Code: first, Limit: 5}, {Code: second, Limit: 5}}
	c.Table = [][]api.Window{{{Cell: 0, Budget: 90}, {Cell: 1, Budget: 90}}}
	return c
}

// windows is a row in which these cells have a window each.
func windows(cells ...int) []api.Window {
	var row []api.Window
	for _, cell := range cells {
		row = append(row, api.Window{Cell: cell, Budget: 33})
	}
	return row
}

// posts is code that sends or writes these numbers.
func posts(op int, channel int64, numbers ...int64) []api.Ins {
	var code []api.Ins
	for _, n := range numbers {
		code = append(code, set(0, n), use(op, 0, 0, channel))
	}
	return code
}

// byWindow is a program that does one piece after the other, each in a window of its own, and then nothing any more.
func byWindow(pieces ...[]api.Ins) []api.Ins {
	var code []api.Ins
	for _, piece := range pieces {
		code = append(append(code, piece...), op(api.Yield))
	}
	return append(code, jump(int64(len(code))-1))
}

// again is a program that does the same in each window.
func again(code ...api.Ins) []api.Ins {
	return append(slices.Clone(code), op(api.Yield), jump(0))
}

// asking is code that says what r and a become.
func asking(op int, n int64) []api.Ins {
	return []api.Ins{use(op, 0, 1, n), say(0), say(1)}
}

func made(t *testing.T, c api.Config) *Kernel {
	t.Helper()
	k, e, at := New(c)
	if k == nil || e != api.OK || at != 0 {
		t.Fatalf("New answers %d at %d", e, at)
	}
	return k
}

func run(t *testing.T, k *Kernel, frames int) {
	t.Helper()
	for range frames {
		if e := k.Frame(nil); e != api.OK {
			t.Fatalf("Frame answers %d", e)
		}
	}
}

// runWith runs one frame with these inputs.
func runWith(t *testing.T, k *Kernel, in ...api.In) {
	t.Helper()
	if e := k.Frame(in); e != api.OK {
		t.Fatalf("Frame with %v answers %d", in, e)
	}
}

// ran makes a kernel and runs so many frames of it.
func ran(t *testing.T, c api.Config, frames int) *Kernel {
	t.Helper()
	k := made(t, c)
	run(t, k, frames)
	return k
}

// saidBy tells the numbers that a cell has said.
func saidBy(t *testing.T, k *Kernel, cell int) []int64 {
	t.Helper()
	l, e := k.Trace(cell)
	if e != api.OK {
		t.Fatalf("Trace answers %d", e)
	}
	var out []int64
	for _, x := range l {
		if x.Kind == api.Said {
			out = append(out, x.A)
		}
	}
	return out
}

// says runs a frame with these inputs, and holds what a cell says in it against what is wanted.
func says(t *testing.T, what string, k *Kernel, cell int, want []int64, in ...api.In) {
	t.Helper()
	before := len(saidBy(t, k, cell))
	runWith(t, k, in...)
	if got := saidBy(t, k, cell)[before:]; !slices.Equal(got, want) {
		t.Errorf("%s: cell %d says %v, want %v", what, cell, got, want)
	}
}

// saysEach holds what a cell says in frames without inputs against what is wanted, frame by frame.
func saysEach(t *testing.T, what string, k *Kernel, cell int, want ...[]int64) {
	t.Helper()
	for frame, numbers := range want {
		says(t, fmt.Sprintf("%s, frame %d", what, frame), k, cell, numbers)
	}
}

// seen is all that the calls tell of a cell.
type seen struct {
	trace      []api.Event
	memory     [api.Words]int64
	stats      api.Stats
	above      []int
	e, f, g, h api.Errno
}

func look(k *Kernel, cell int) seen {
	var s seen
	var trace []api.Event
	var memory []int64
	trace, s.e = k.Trace(cell)
	memory, s.f = k.Memory(cell)
	s.stats, s.g = k.Stats(cell)
	s.above, s.h = k.Above(cell)
	if len(memory) == api.Words {
		copy(s.memory[:], memory)
	} else if s.f == api.OK {
		s.f = -1 // no errno: a memory of another length is like nothing else
	}
	s.trace = append(s.trace, trace...)
	return s
}

// lookAll tells of all cells.
func lookAll(k *Kernel, cells int) []seen {
	var all []seen
	for cell := range cells {
		all = append(all, look(k, cell))
	}
	return all
}

func traceIs(t *testing.T, what string, k *Kernel, cell int, want ...api.Event) {
	t.Helper()
	got, e := k.Trace(cell)
	if e != api.OK || len(got) != len(want) || len(want) > 0 && !reflect.DeepEqual(got, want) {
		t.Errorf("%s: Trace(%d) answers %v and %d, want %v", what, cell, got, e, want)
	}
}

func statsAre(t *testing.T, what string, k *Kernel, cell int, want api.Stats) {
	t.Helper()
	if got, e := k.Stats(cell); e != api.OK || got != want {
		t.Errorf("%s: Stats(%d) answers %+v and %d, want %+v", what, cell, got, e, want)
	}
}

func memoryIs(t *testing.T, what string, k *Kernel, cell int, first ...int64) {
	t.Helper()
	want := make([]int64, api.Words)
	copy(want, first)
	if got, e := k.Memory(cell); e != api.OK || !reflect.DeepEqual(got, want) {
		t.Errorf("%s: Memory(%d) answers %v and %d, want %v", what, cell, got, e, want)
	}
}
