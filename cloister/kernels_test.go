package cloister

import (
	"reflect"
	"testing"

	"cloister/api"
)

func op(op int) api.Ins { return api.Ins{Op: op} }

func set(r int, n int64) api.Ins { return api.Ins{Op: api.Set, R: r, N: n} }

func on(op, r, a int) api.Ins { return api.Ins{Op: op, R: r, A: a} }

func say(r int) api.Ins { return api.Ins{Op: api.Log, R: r} }

func jump(n int64) api.Ins { return api.Ins{Op: api.Jump, N: n} }

func zero(r int, n int64) api.Ins { return api.Ins{Op: api.Zero, R: r, N: n} }

func said(n int64) api.Event { return api.Event{Kind: api.Said, A: n} }

func broke(why, often int64) api.Event { return api.Event{Kind: api.Broke, A: why, B: often} }

func closed(steps, why int64) api.Event { return api.Event{Kind: api.Closed, A: steps, B: why} }

// alone is a config of one cell, with a row of one window for each budget.
func alone(limit int, budgets []int, code ...api.Ins) api.Config {
	c := api.Config{Cells: []api.Cell{{Code: code, Limit: limit}}}
	for _, b := range budgets {
		c.Table = append(c.Table, []api.Window{{Budget: b}})
	}
	return c
}

func made(t *testing.T, c api.Config) *Kernel {
	t.Helper()
	k, e, at := New(c)
	if k == nil || e != api.OK || at != 0 {
		t.Fatalf("New answers %d at %d", e, at)
	}
	return k
}

func run(t *testing.T, k *Kernel, frames int) {
	t.Helper()
	for range frames {
		if e := k.Frame(nil); e != api.OK {
			t.Fatalf("Frame answers %d", e)
		}
	}
}

// ran makes a kernel and runs so many frames of it.
func ran(t *testing.T, c api.Config, frames int) *Kernel {
	t.Helper()
	k := made(t, c)
	run(t, k, frames)
	return k
}

// seen is all that the calls tell of a cell.
type seen struct {
	trace   []api.Event
	memory  [api.Words]int64
	stats   api.Stats
	e, f, g api.Errno
}

func look(k *Kernel, cell int) seen {
	var s seen
	var trace []api.Event
	var memory []int64
	trace, s.e = k.Trace(cell)
	memory, s.f = k.Memory(cell)
	s.stats, s.g = k.Stats(cell)
	if len(memory) == api.Words {
		copy(s.memory[:], memory)
	} else if s.f == api.OK {
		s.f = -1 // no errno: a memory of another length is like nothing else
	}
	s.trace = append(s.trace, trace...)
	return s
}

// lookAll tells of all cells.
func lookAll(k *Kernel, cells int) []seen {
	var all []seen
	for cell := range cells {
		all = append(all, look(k, cell))
	}
	return all
}

func traceIs(t *testing.T, what string, k *Kernel, cell int, want ...api.Event) {
	t.Helper()
	got, e := k.Trace(cell)
	if e != api.OK || len(got) != len(want) || len(want) > 0 && !reflect.DeepEqual(got, want) {
		t.Errorf("%s: Trace(%d) answers %v and %d, want %v", what, cell, got, e, want)
	}
}

func statsAre(t *testing.T, what string, k *Kernel, cell int, want api.Stats) {
	t.Helper()
	if got, e := k.Stats(cell); e != api.OK || got != want {
		t.Errorf("%s: Stats(%d) answers %+v and %d, want %+v", what, cell, got, e, want)
	}
}

func memoryIs(t *testing.T, what string, k *Kernel, cell int, first ...int64) {
	t.Helper()
	want := make([]int64, api.Words)
	copy(want, first)
	if got, e := k.Memory(cell); e != api.OK || !reflect.DeepEqual(got, want) {
		t.Errorf("%s: Memory(%d) answers %v and %d, want %v", what, cell, got, e, want)
	}
}
