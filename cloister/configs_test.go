package cloister

import (
	"math/big"
	"math/rand"
	"slices"
	"testing"

	"cloister/api"
)

// least is the smallest config that may be.
func least() api.Config {
	return api.Config{
		Cells: []api.Cell{{Code: []api.Ins{{Op: api.Yield}}}},
		Table: [][]api.Window{nil},
	}
}

// trio has three cells and a channel of each kind in both directions between 0 and 1; 2 has none.
// Queues: 0 from 0 to 1, 2 from 1 to 0. Samples: 1 from 0 to 1, 3 from 1 to 0. Device 0 is read by 0, 1 by 1.
func trio() api.Config {
	return api.Config{
		Cells: []api.Cell{
			{Code: []api.Ins{{Op: api.Send, N: 0}, {Op: api.Write, N: 1}, {Op: api.Take, N: 2}, {Op: api.Lost, N: 2}, {Op: api.Read, N: 3}, {Op: api.Input, N: 0}}},
			{Code: []api.Ins{{Op: api.Send, N: 2}, {Op: api.Write, N: 3}, {Op: api.Take, N: 0}, {Op: api.Lost, N: 0}, {Op: api.Read, N: 1}, {Op: api.Input, N: 1}}, Image: []int64{1, 2}, Limit: 1},
			{Code: []api.Ins{{Op: api.Set, N: 9}, {Op: api.Jump, N: 0}}},
		},
		Table: [][]api.Window{{{Cell: 0, Budget: 50}, {Cell: 1, Budget: 50}, {Cell: 2, Budget: 100}}, {}, {{Cell: 2, Budget: 200}}},
		Chans: []api.Chan{{Kind: api.Queue, From: 0, To: 1}, {Kind: api.Sample, From: 0, To: 1}, {Kind: api.Queue, From: 1, To: 0}, {Kind: api.Sample, From: 1, To: 0}},
		Devs:  []int{0, 1},
	}
}

// fullest has as much of everything as there may be.
func fullest() api.Config {
	var c api.Config
	for n := range api.MaxCells {
		code := slices.Repeat([]api.Ins{{Op: api.Jump, R: api.Regs - 1, A: api.Regs - 1, N: api.MaxCode - 1}}, api.MaxCode)
		c.Cells = append(c.Cells, api.Cell{Code: code, Image: slices.Repeat([]int64{int64(n) - 3}, api.Words), Limit: api.MaxLimit})
	}
	for range api.MaxRows {
		var row []api.Window
		for n := range api.MaxWindows {
			row = append(row, api.Window{Cell: n, Budget: 33})
		}
		row[0].Budget += 2
		c.Table = append(c.Table, row)
	}
	for n := range api.MaxChans {
		c.Chans = append(c.Chans, api.Chan{Kind: 1 + n%2, From: n % 6, To: (n + 1) % 6})
	}
	c.Devs = []int{5, 5, 0, 3}
	return c
}

func copyOf(c api.Config) api.Config {
	c.Cells = slices.Clone(c.Cells)
	for n := range c.Cells {
		c.Cells[n].Code = slices.Clone(c.Cells[n].Code)
		c.Cells[n].Image = slices.Clone(c.Cells[n].Image)
	}
	c.Table = slices.Clone(c.Table)
	for n := range c.Table {
		c.Table[n] = slices.Clone(c.Table[n])
	}
	c.Chans = slices.Clone(c.Chans)
	c.Devs = slices.Clone(c.Devs)
	return c
}

// wanted is P3, written down a second time, word by word and without any look-up.
func wanted(c api.Config) (api.Errno, int) {
	n := len(c.Cells)
	if n == 0 || n > 6 {
		return api.ErrCells, 0
	}
	if len(c.Table) == 0 || len(c.Table) > 8 {
		return api.ErrTable, 0
	}
	for at, row := range c.Table {
		sum := new(big.Int)
		for _, w := range row {
			if w.Cell < 0 || w.Cell >= n || w.Budget <= 0 {
				return api.ErrTable, at
			}
			sum.Add(sum, big.NewInt(int64(w.Budget)))
		}
		if len(row) > 6 || sum.Cmp(big.NewInt(200)) > 0 {
			return api.ErrTable, at
		}
	}
	if len(c.Chans) > 8 {
		return api.ErrChans, 0
	}
	for at, h := range c.Chans {
		if h.Kind < 1 || h.Kind > 2 || h.From < 0 || h.From >= n || h.To < 0 || h.To >= n || h.From == h.To {
			return api.ErrChans, at
		}
	}
	if len(c.Devs) > 4 {
		return api.ErrDevs, 0
	}
	for at, d := range c.Devs {
		if d < 0 || d >= n {
			return api.ErrDevs, at
		}
	}
	for at, l := range c.Cells {
		if l.Limit < 0 || l.Limit > 5 || len(l.Image) > 16 || len(l.Code) == 0 || len(l.Code) > 48 {
			return api.ErrCode, at
		}
		for _, i := range l.Code {
			if !wantedIns(c, at, i) {
				return api.ErrCode, at
			}
		}
	}
	return api.OK, 0
}

func wantedIns(c api.Config, cell int, i api.Ins) bool {
	if i.Op < 0 || i.Op > 16 || i.R < 0 || i.R > 3 || i.A < 0 || i.A > 3 {
		return false
	}
	if i.Op == 8 || i.Op == 9 {
		return i.N >= 0 && i.N < int64(len(c.Cells[cell].Code))
	}
	if i.Op == 14 {
		for n, d := range c.Devs {
			if int64(n) == i.N && d == cell {
				return true
			}
		}
		return false
	}
	if i.Op < 10 || i.Op == 15 {
		return true
	}
	for n, h := range c.Chans {
		if int64(n) != i.N {
			continue
		}
		switch i.Op {
		case 10:
			return h == api.Chan{Kind: 1, From: cell, To: h.To}
		case 11:
			return h == api.Chan{Kind: 2, From: cell, To: h.To}
		case 12, 16:
			return h == api.Chan{Kind: 1, From: h.From, To: cell}
		case 13:
			return h == api.Chan{Kind: 2, From: h.From, To: cell}
		}
	}
	return false
}

// check holds New against what is wanted of it.
func check(t *testing.T, what string, c api.Config, e api.Errno, at int) {
	t.Helper()
	defer func() {
		if p := recover(); p != nil {
			t.Errorf("%s: New panics: %v", what, p)
		}
	}()
	k, ge, gat := New(c)
	if ge != e || gat != at {
		t.Errorf("%s: New answers %d at %d, want %d at %d", what, ge, gat, e, at)
	}
	if (k != nil) != (ge == api.OK) {
		t.Errorf("%s: New answers error %d, and a kernel: %v", what, ge, k != nil)
	}
}

// someConfig is mostly near the edges of what may be.
func someConfig(r *rand.Rand) api.Config {
	c := []func() api.Config{least, trio, fullest}[r.Intn(3)]()
	for range r.Intn(4) {
		spoil(r, &c)
	}
	return c
}

// spoil changes one thing, which may or may not make a fault.
func spoil(r *rand.Rand, c *api.Config) {
	cell := &c.Cells[r.Intn(len(c.Cells))]
	number := someNumber(r)
	switch r.Intn(10) {
	case 0:
		cell.Limit = int(number)
	case 1:
		cell.Image = make([]int64, r.Intn(19))
	case 2:
		cell.Code = append(cell.Code, api.Ins{Op: r.Intn(19) - 1, R: r.Intn(4), A: r.Intn(4), N: number})
	case 3:
		if len(cell.Code) > 0 {
			cell.Code[r.Intn(len(cell.Code))] = api.Ins{Op: r.Intn(17), R: r.Intn(5), A: r.Intn(5), N: number}
		}
	case 4:
		c.Table = append(c.Table, []api.Window{{Cell: r.Intn(7), Budget: int(number)}, {Cell: 0, Budget: int(someNumber(r))}})
	case 5:
		at := r.Intn(len(c.Table))
		c.Table[at] = append(c.Table[at], api.Window{Cell: int(number), Budget: 1})
	case 6:
		c.Chans = append(c.Chans, api.Chan{Kind: r.Intn(4), From: r.Intn(7), To: int(number)})
	case 7:
		c.Devs = append(c.Devs, int(number))
	case 8:
		if len(c.Chans) > 0 {
			c.Chans[r.Intn(len(c.Chans))] = api.Chan{Kind: 1 + r.Intn(2), From: r.Intn(3), To: r.Intn(3)}
		}
	case 9:
		c.Cells = append(c.Cells, *cell)
	}
}

func someNumber(r *rand.Rand) int64 {
	if r.Intn(2) == 0 {
		return int64(r.Intn(9)) - 1
	}
	return extremes[r.Intn(len(extremes))]
}
