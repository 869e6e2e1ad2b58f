package cloister

import (
	"fmt"
	"math/rand"
	"slices"
	"testing"

	"cloister/api"
)

// heldToBudgets holds what a cell has told of a frame against its windows in that row; it had broken so often ahead of it.
func heldToBudgets(limit, broken int, row []api.Window, told []api.Event) error {
	stopped := broken > limit
	for _, e := range told {
		switch e.Kind {
		case api.Broke:
			broken++
		case api.Closed:
			if len(row) == 0 {
				return fmt.Errorf("a window too many: %+v", e)
			}
			if stopped != (e.B == api.BySkip) || stopped && e.A != 0 || !stopped && (e.A < 1 || e.A > int64(row[0].Budget)) {
				return fmt.Errorf("a window of %d steps, stopped: %v: %+v", row[0].Budget, stopped, e)
			}
			row, stopped = row[1:], broken > limit
		}
	}
	if len(row) > 0 {
		return fmt.Errorf("%d windows are missing", len(row))
	}
	return nil
}

// TestP10Steps runs many programs: each window of a cell that is not stopped has a step at least, and no more than its budget.
func TestP10Steps(t *testing.T) {
	r := rand.New(rand.NewSource(33))
	for n := range 1500 {
		c := somePrograms(r)
		k := made(t, c)
		for frame := range 10 {
			before := lookAll(k, len(c.Cells))
			in := someInputs(r)
			runWith(t, k, in[:min(len(in), api.MaxDevs)]...)
			for cell, old := range before {
				now := look(k, cell)
				row := slices.DeleteFunc(slices.Clone(c.Table[frame%len(c.Table)]), func(w api.Window) bool { return w.Cell != cell })
				if err := heldToBudgets(c.Cells[cell].Limit, old.stats.Broken, row, now.trace[len(old.trace):]); err != nil {
					t.Fatalf("config %d: %+v\nframe %d, cell %d: %v", n, c, frame, cell, err)
				}
			}
		}
	}
}

// bullies are programs for a cell that has a queue and a sample to and from another one, as in couple.
func bullies() map[string][]api.Ins {
	return map[string][]api.Ins{
		"never yields":     forever,
		"yields at once":   again(),
		"breaks by Div":    {on(api.Div, 0, 0)},
		"breaks by memory": {set(1, -1), on(api.Load, 0, 1)},
		"ends":             {set(0, 1)},
		"sends and breaks": slices.Concat(telling(5), telling(6), []api.Ins{on(api.Div, 0, 2)}),
		"floods":           {use(api.Send, 0, 0, 0), use(api.Write, 0, 0, 1), jump(0)},
		"takes all":        {use(api.Take, 0, 1, 2), use(api.Read, 0, 1, 3), use(api.Input, 0, 1, 0), jump(0)},
		"logs":             {say(0), jump(0)},
	}
}

// TestP10WhateverOthersDo: a cell has its steps in full, beside a bully with windows ahead of it and behind it.
func TestP10WhateverOthersDo(t *testing.T) {
	for what, bully := range bullies() {
		for _, budget := range []int{1, 2, 7, 60, 80} {
			for limit := range api.MaxLimit + 1 {
				c := couple(bully, []api.Ins{use(api.Take, 0, 1, 0), use(api.Read, 0, 1, 1), use(api.Send, 0, 0, 2), jump(0)})
				c.Cells[0].Limit = limit
				c.Table = [][]api.Window{{{Cell: 0, Budget: 60}, {Cell: 1, Budget: budget}, {Cell: 0, Budget: 60}}}
				k := ran(t, c, 9)
				traceIs(t, fmt.Sprintf("beside one that %s, limit %d", what, limit), k, 1, slices.Repeat([]api.Event{closed(int64(budget), api.BySteps)}, 9)...)
				statsAre(t, fmt.Sprintf("beside one that %s, limit %d", what, limit), k, 1, api.Stats{Steps: 9 * budget})
			}
		}
	}
}

// TestP10OneStep: with a budget of 1 each window has one step, whatever the step does; a break is one too.
func TestP10OneStep(t *testing.T) {
	for what, code := range bullies() {
		c := couple(code, forever)
		c.Table = [][]api.Window{{{Cell: 0, Budget: 1}, {Cell: 0, Budget: 1}, {Cell: 1, Budget: 1}}}
		k := made(t, c)
		for frame := range 30 {
			run(t, k, 1)
			now, _ := k.Stats(0)
			if !now.Stopped && now.Steps != 2*(frame+1) {
				t.Errorf("one that %s: %+v after frame %d", what, now, frame)
			}
			statsAre(t, "beside one that "+what, k, 1, api.Stats{Steps: frame + 1})
		}
	}
}
