package cloister

import (
	"fmt"
	"math/rand"
	"reflect"
	"slices"
	"testing"

	"cloister/api"
)

// otherwise is the same config but for the code, image and limit of the cells that are not above a cell.
func otherwise(r *rand.Rand, c api.Config, above []int) api.Config {
	c = copyOf(c)
	for cell := range c.Cells {
		if !slices.Contains(above, cell) {
			c.Cells[cell] = someProgram(r, usesOf(c, cell))
		}
	}
	return c
}

// otherInputs are the same but for devices that no cell above reads, which stand anywhere between the others.
func otherInputs(r *rand.Rand, c api.Config, above []int, in []api.In) []api.In {
	read := func(x api.In) bool {
		return x.Dev >= 0 && x.Dev < len(c.Devs) && slices.Contains(above, c.Devs[x.Dev])
	}
	out := slices.DeleteFunc(slices.Clone(in), func(x api.In) bool { return !read(x) })
	for range r.Intn(api.MaxDevs + 1 - len(out)) {
		x := api.In{Dev: r.Intn(api.MaxDevs+2) - 1, N: someNumber(r)}
		if !read(x) {
			out = slices.Insert(out, r.Intn(len(out)+1), x)
		}
	}
	return out
}

// TestP9Unseen runs kernels by pairs that differ in whatever is not above a cell: it sees nothing of that, frame by frame.
func TestP9Unseen(t *testing.T) {
	r := rand.New(rand.NewSource(32))
	others, differ, heard := 0, 0, 0
	for n := range 1500 {
		c := somePrograms(r)
		cell := r.Intn(len(c.Cells))
		above := wantedAbove(c, cell)
		d := otherwise(r, c, above)
		one, other := made(t, c), made(t, d)
		for frame := range 10 {
			in := someInputs(r)
			in = in[:min(len(in), api.MaxDevs)]
			runWith(t, one, in...)
			runWith(t, other, otherInputs(r, c, above, in)...)
			for _, x := range above {
				if a, b := look(one, x), look(other, x); !reflect.DeepEqual(a, b) {
					t.Fatalf("config %d: %+v\nand %+v\nframe %d: cell %d sees what is not above %d: %+v and %+v", n, c, d, frame, x, cell, a, b)
				}
			}
		}
		for x := range c.Cells {
			if !slices.Contains(above, x) {
				others++
				if !reflect.DeepEqual(look(one, x), look(other, x)) {
					differ++
				}
			}
		}
		if len(above) > 1 && len(above) < len(c.Cells) && look(one, cell).stats.Steps > 0 {
			heard++
		}
	}
	if others < 1000 || differ < others/2 || heard < 100 {
		t.Errorf("too little to see: %d cells not above, %d of them with something else to tell, %d with cells both above and not", others, differ, heard)
	}
}

// neighbours are programs for a cell to which the queue 0 and the sample 1 lead, and from which nothing leads.
func neighbours() map[string]api.Cell {
	return map[string]api.Cell{
		"takes nothing":    {Code: forever},
		"yields at once":   {Code: again()},
		"takes one by one": {Code: again(hearing()...)},
		"takes all":        {Code: again(slices.Repeat(asking(api.Take, 0), 5)...), Limit: 5},
		"asks for losses":  {Code: again(use(api.Lost, 0, 0, 0), say(0))},
		"takes and breaks": {Code: slices.Concat(hearing(), []api.Ins{set(0, 0), on(api.Div, 0, 0)}), Limit: 5},
		"stops early":      {Code: []api.Ins{on(api.Div, 0, 0)}},
		"stops later":      {Code: again(on(api.Load, 0, 1), set(1, 16)), Limit: 1},
		"has an image":     {Code: again(on(api.Load, 0, 1), on(api.Store, 0, 0)), Image: slices.Repeat([]int64{9}, api.Words)},
		"ends":             {Code: []api.Ins{set(0, 1)}, Limit: 3},
	}
}

// TestP9Below: who sends and writes does not see what becomes of it, nor does another one that hears the same.
func TestP9Below(t *testing.T) {
	flood := again(use(api.Input, 0, 1, 0), use(api.Send, 0, 0, 0), use(api.Send, 0, 0, 0), use(api.Write, 0, 0, 1), use(api.Send, 0, 0, 2), use(api.Write, 0, 0, 3), say(0))
	hear := again(slices.Concat(asking(api.Take, 2), asking(api.Read, 3), []api.Ins{use(api.Lost, 0, 0, 2), say(0)})...)
	c := api.Config{
		Cells: []api.Cell{{Code: flood, Limit: 2}, {}, {Code: hear, Limit: 2}},
		Table: [][]api.Window{windows(0, 1, 2), windows(1, 0, 1, 2), windows(1), nil, {{Cell: 0, Budget: 5}, {Cell: 1, Budget: 90}, {Cell: 2, Budget: 4}}},
		Chans: []api.Chan{{Kind: api.Queue, From: 0, To: 1}, {Kind: api.Sample, From: 0, To: 1}, {Kind: api.Queue, From: 0, To: 2}, {Kind: api.Sample, From: 0, To: 2}},
		Devs:  []int{0, 1},
	}
	var first []seen
	for what, neighbour := range neighbours() {
		c.Cells[1] = neighbour
		k := made(t, c)
		aboveIs(t, what, k, []int{0}, []int{0, 1}, []int{0, 2})
		for frame := range int64(20) {
			runWith(t, k, api.In{Dev: 1, N: int64(len(what))}, api.In{Dev: 0, N: frame})
		}
		got := []seen{look(k, 0), look(k, 2)}
		if first == nil {
			first = got
		}
		if !reflect.DeepEqual(got, first) {
			t.Errorf("a neighbour that %s is noticed: %+v and %+v", what, got, first)
		}
	}
	if len(first[1].trace) < 50 {
		t.Errorf("too little was heard: %+v", first[1].trace)
	}
}

// TestP9Seen: what is above a cell does reach it, over as many channels as lie between.
func TestP9Seen(t *testing.T) {
	pass := func(takes, sends int64) []api.Ins {
		return again(use(api.Take, 0, 1, takes), use(api.Send, 0, 0, sends))
	}
	for cells := 2; cells <= api.MaxCells; cells++ {
		c := api.Config{Table: [][]api.Window{nil}}
		for cell := range cells {
			c.Cells = append(c.Cells, api.Cell{Code: pass(int64(cell)-1, int64(cell))})
			c.Table[0] = append(c.Table[0], api.Window{Cell: cell, Budget: 30})
			c.Chans = append(c.Chans, api.Chan{Kind: api.Queue, From: cell, To: cell + 1})
		}
		c.Chans = c.Chans[:cells-1]
		c.Cells[0].Code = byWindow(posts(api.Send, 0, 77))
		c.Cells[cells-1].Code = again(asking(api.Take, int64(cells)-2)...)
		k := made(t, c)
		run(t, k, 20)
		if !slices.Contains(saidBy(t, k, cells-1), 77) {
			t.Errorf("%d cells: the last one says %v", cells, saidBy(t, k, cells-1))
		}
		var want [][]int
		for cell := range cells {
			want = append(want, []int{0, 1, 2, 3, 4, 5}[:cell+1])
		}
		aboveIs(t, fmt.Sprintf("%d cells", cells), k, want...)
	}
}
