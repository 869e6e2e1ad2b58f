package cloister

import (
	"fmt"
	"math/rand"
	"slices"
	"testing"

	"cloister/api"
)

type turn struct {
	what string
	turn func(c *api.Config)
	e    api.Errno
	at   int
}

func tryAll(t *testing.T, start func() api.Config, turns []turn) {
	t.Helper()
	for _, x := range turns {
		c := start()
		x.turn(&c)
		check(t, x.what, c, x.e, x.at)
	}
}

func TestP3MayBe(t *testing.T) {
	for _, start := range []func() api.Config{least, trio, fullest} {
		check(t, "as it is", start(), api.OK, 0)
	}
}

func TestP3Cells(t *testing.T) {
	tryAll(t, least, []turn{
		{"nil", func(c *api.Config) { c.Cells = nil }, api.ErrCells, 0},
		{"none", func(c *api.Config) { c.Cells = []api.Cell{} }, api.ErrCells, 0},
		{"six", func(c *api.Config) { c.Cells = slices.Repeat(c.Cells, 6) }, api.OK, 0},
		{"seven", func(c *api.Config) { c.Cells = slices.Repeat(c.Cells, 7) }, api.ErrCells, 0},
	})
}

func TestP3Table(t *testing.T) {
	row := func(ws ...api.Window) func(c *api.Config) {
		return func(c *api.Config) { c.Table[2] = ws }
	}
	one := api.Window{Cell: 1, Budget: 1}
	tryAll(t, trio, []turn{
		{"nil", func(c *api.Config) { c.Table = nil }, api.ErrTable, 0},
		{"no row", func(c *api.Config) { c.Table = [][]api.Window{} }, api.ErrTable, 0},
		{"one row", func(c *api.Config) { c.Table = c.Table[:1] }, api.OK, 0},
		{"eight rows", func(c *api.Config) { c.Table = make([][]api.Window, 8) }, api.OK, 0},
		{"nine rows", func(c *api.Config) { c.Table = make([][]api.Window, 9) }, api.ErrTable, 0},
		{"nine rows, the fourth with a fault", func(c *api.Config) { c.Table = make([][]api.Window, 9); c.Table[3] = []api.Window{{}} }, api.ErrTable, 0},
		{"no window", row(), api.OK, 0},
		{"six windows", row(slices.Repeat([]api.Window{one}, 6)...), api.OK, 0},
		{"seven windows", row(slices.Repeat([]api.Window{one}, 7)...), api.ErrTable, 2},
		{"the last cell", row(api.Window{Cell: 2, Budget: 1}), api.OK, 0},
		{"behind the last cell", row(api.Window{Cell: 3, Budget: 1}), api.ErrTable, 2},
		{"cell -1", row(one, api.Window{Cell: -1, Budget: 1}), api.ErrTable, 2},
		{"budget 0", row(one, api.Window{Cell: 1}), api.ErrTable, 2},
		{"budget -1", row(one, api.Window{Cell: 1, Budget: -1}), api.ErrTable, 2},
		{"budgets that a negative one would make good", row(api.Window{Budget: 201}, api.Window{Budget: -1}), api.ErrTable, 2},
		{"200 in one", row(api.Window{Budget: 200}), api.OK, 0},
		{"201 in one", row(api.Window{Budget: 201}), api.ErrTable, 2},
		{"200 together", row(api.Window{Budget: 199}, one), api.OK, 0},
		{"201 together", row(api.Window{Budget: 199}, one, one), api.ErrTable, 2},
		{"200 and one more", row(api.Window{Budget: 200}, one), api.ErrTable, 2},
		{"a sum that wraps round to 0", row(slices.Repeat([]api.Window{{Budget: 1 << 62}}, 4)...), api.ErrTable, 2},
		{"each row for itself", func(c *api.Config) {
			c.Table = slices.Repeat([][]api.Window{{{Budget: 200}}}, 8)
		}, api.OK, 0},
		{"the first of two faults", func(c *api.Config) { c.Table[1] = []api.Window{{}}; c.Table[2] = c.Table[1] }, api.ErrTable, 1},
		{"the last row", func(c *api.Config) { c.Table = make([][]api.Window, 8); c.Table[7] = []api.Window{{}} }, api.ErrTable, 7},
	})
}

func TestP3Chans(t *testing.T) {
	last := func(h api.Chan) func(c *api.Config) {
		return func(c *api.Config) { c.Chans = append(c.Chans, h) }
	}
	tryAll(t, trio, []turn{
		{"none where none is used", func(c *api.Config) { *c = least(); c.Chans = []api.Chan{} }, api.OK, 0},
		{"eight", func(c *api.Config) { c.Chans = append(c.Chans, c.Chans...) }, api.OK, 0},
		{"nine", func(c *api.Config) { c.Chans = append(c.Chans, slices.Repeat(c.Chans[:1], 5)...) }, api.ErrChans, 0},
		{"nine, the third with a fault", func(c *api.Config) { c.Chans = append(c.Chans, slices.Repeat(c.Chans[:1], 5)...); c.Chans[2].Kind = 0 }, api.ErrChans, 0},
		{"a queue", last(api.Chan{Kind: api.Queue, From: 2, To: 0}), api.OK, 0},
		{"a sample", last(api.Chan{Kind: api.Sample, From: 0, To: 2}), api.OK, 0},
		{"kind 0", last(api.Chan{Kind: 0, From: 0, To: 1}), api.ErrChans, 4},
		{"kind 3", last(api.Chan{Kind: 3, From: 0, To: 1}), api.ErrChans, 4},
		{"kind -1", last(api.Chan{Kind: -1, From: 0, To: 1}), api.ErrChans, 4},
		{"from behind the last cell", last(api.Chan{Kind: api.Queue, From: 3, To: 1}), api.ErrChans, 4},
		{"to behind the last cell", last(api.Chan{Kind: api.Queue, From: 0, To: 3}), api.ErrChans, 4},
		{"from -1", last(api.Chan{Kind: api.Queue, From: -1, To: 1}), api.ErrChans, 4},
		{"to -1", last(api.Chan{Kind: api.Queue, From: 0, To: -1}), api.ErrChans, 4},
		{"a queue to itself", last(api.Chan{Kind: api.Queue, From: 2, To: 2}), api.ErrChans, 4},
		{"a sample to itself", last(api.Chan{Kind: api.Sample, From: 0, To: 0}), api.ErrChans, 4},
		{"the first of two faults", func(c *api.Config) { c.Chans[1].Kind = 3; c.Chans[2].From = 9 }, api.ErrChans, 1},
		{"the very first", func(c *api.Config) { c.Chans[0].To = 0 }, api.ErrChans, 0},
	})
}

func TestP3Devs(t *testing.T) {
	devs := func(ds ...int) func(c *api.Config) {
		return func(c *api.Config) { c.Devs = ds }
	}
	tryAll(t, trio, []turn{
		{"none where none is used", func(c *api.Config) { *c = least(); c.Devs = []int{} }, api.OK, 0},
		{"four", devs(0, 1, 2, 2), api.OK, 0},
		{"five", devs(0, 1, 2, 2, 2), api.ErrDevs, 0},
		{"five, the third with a fault", devs(0, 1, 3, 2, 2), api.ErrDevs, 0},
		{"behind the last cell", devs(0, 1, 3), api.ErrDevs, 2},
		{"cell -1", devs(0, 1, 2, -1), api.ErrDevs, 3},
		{"the first of two faults", devs(0, -1, 3), api.ErrDevs, 1},
		{"the very first", devs(-1), api.ErrDevs, 0},
	})
}

func TestP3CellBounds(t *testing.T) {
	for at := range 3 {
		cell := func(turn func(l *api.Cell)) func(c *api.Config) {
			return func(c *api.Config) { turn(&c.Cells[at]) }
		}
		tryAll(t, trio, []turn{
			{"limit 0", cell(func(l *api.Cell) { l.Limit = 0 }), api.OK, 0},
			{"limit 5", cell(func(l *api.Cell) { l.Limit = 5 }), api.OK, 0},
			{"limit 6", cell(func(l *api.Cell) { l.Limit = 6 }), api.ErrCode, at},
			{"limit -1", cell(func(l *api.Cell) { l.Limit = -1 }), api.ErrCode, at},
			{"image nil", cell(func(l *api.Cell) { l.Image = nil }), api.OK, 0},
			{"image of 16", cell(func(l *api.Cell) { l.Image = slices.Repeat([]int64{-1 << 63}, 16) }), api.OK, 0},
			{"image of 17", cell(func(l *api.Cell) { l.Image = make([]int64, 17) }), api.ErrCode, at},
			{"code nil", cell(func(l *api.Cell) { l.Code = nil }), api.ErrCode, at},
			{"no code", cell(func(l *api.Cell) { l.Code = []api.Ins{} }), api.ErrCode, at},
			{"one instruction", cell(func(l *api.Cell) { l.Code = make([]api.Ins, 1) }), api.OK, 0},
			{"48 instructions", cell(func(l *api.Cell) { l.Code = make([]api.Ins, 48) }), api.OK, 0},
			{"49 instructions", cell(func(l *api.Cell) { l.Code = make([]api.Ins, 49) }), api.ErrCode, at},
			{"a fault in the last of 48", cell(func(l *api.Cell) { l.Code = make([]api.Ins, 48); l.Code[47].Op = 17 }), api.ErrCode, at},
		})
	}
	tryAll(t, trio, []turn{
		{"the first of two faults", func(c *api.Config) { c.Cells[1].Code[2].R = 4; c.Cells[2].Limit = 6 }, api.ErrCode, 1},
	})
}

// TestP3Instructions tries every instruction in every cell with all that its fields may and may not be.
func TestP3Instructions(t *testing.T) {
	ns := append([]int64{0, 1, 2, 3, 4, 5, 6, 7}, extremes...)
	for cell := range 3 {
		for op := -1; op <= 17; op++ {
			for r := -1; r <= api.Regs; r++ {
				for a := -1; a <= api.Regs; a++ {
					for _, n := range ns {
						i := api.Ins{Op: op, R: r, A: a, N: n}
						c := trio()
						c.Cells[cell].Code[1] = i
						e, at := api.OK, 0
						if !wantedIns(c, cell, i) {
							e, at = api.ErrCode, cell
						}
						check(t, fmt.Sprintf("cell %d: %+v", cell, i), c, e, at)
					}
				}
			}
		}
	}
}

// TestP3Uses names, without any rule, who may use which channel and device of trio how.
func TestP3Uses(t *testing.T) {
	may := map[api.Ins][]int{ // the instruction: the cells that may have it
		{Op: api.Send, N: 0}: {0}, {Op: api.Send, N: 2}: {1},
		{Op: api.Write, N: 1}: {0}, {Op: api.Write, N: 3}: {1},
		{Op: api.Take, N: 0}: {1}, {Op: api.Take, N: 2}: {0},
		{Op: api.Lost, N: 0}: {1}, {Op: api.Lost, N: 2}: {0},
		{Op: api.Read, N: 1}: {1}, {Op: api.Read, N: 3}: {0},
		{Op: api.Input, N: 0}: {0}, {Op: api.Input, N: 1}: {1},
	}
	for _, op := range []int{api.Send, api.Write, api.Take, api.Lost, api.Read, api.Input} {
		for _, n := range []int64{-1, 0, 1, 2, 3, 4, 1 << 32, 1<<32 + 1, -1 << 63} {
			for cell := range 3 {
				i := api.Ins{Op: op, N: n}
				c := trio()
				c.Cells[cell].Code = []api.Ins{i}
				if slices.Contains(may[i], cell) {
					check(t, fmt.Sprintf("cell %d: %+v", cell, i), c, api.OK, 0)
				} else {
					check(t, fmt.Sprintf("cell %d: %+v", cell, i), c, api.ErrCode, cell)
				}
			}
		}
	}
}

// TestP3Jumps tries the edges of each cell's own code, not of another one's.
func TestP3Jumps(t *testing.T) {
	for _, op := range []int{api.Jump, api.Zero} {
		for size := 1; size <= api.MaxCode; size++ {
			for _, n := range []int64{-1, 0, int64(size) - 1, int64(size), 1 << 32, -1 << 63, 1<<63 - 1} {
				c := trio()
				c.Cells[2].Code = make([]api.Ins, size)
				c.Cells[2].Code[size-1] = api.Ins{Op: op, N: n}
				e, at := api.ErrCode, 2
				if n == 0 || n == int64(size)-1 {
					e, at = api.OK, 0
				}
				check(t, fmt.Sprintf("%d of %d to %d", op, size, n), c, e, at)
			}
		}
	}
}

// TestP3Example5 is the document's fifth example.
func TestP3Example5(t *testing.T) {
	check(t, "no cell", api.Config{}, api.ErrCells, 0)
	tryAll(t, trio, []turn{
		{"a second row with a budget of 0", func(c *api.Config) { c.Table[1] = []api.Window{{}} }, api.ErrTable, 1},
		{"a channel from 0 to 0", func(c *api.Config) { c.Chans = []api.Chan{{Kind: api.Queue}} }, api.ErrChans, 0},
		{"Send by a cell that the queue leads to", func(c *api.Config) { c.Cells[1].Code = []api.Ins{{Op: api.Send, N: 0}} }, api.ErrCode, 1},
	})
}

func TestP3Many(t *testing.T) {
	r := rand.New(rand.NewSource(3))
	seen := map[api.Errno]int{}
	for n := range 30000 {
		c := someConfig(r)
		e, at := wanted(c)
		seen[e]++
		check(t, fmt.Sprintf("config %d: %+v", n, c), c, e, at)
	}
	for e := api.OK; e <= api.ErrCode; e++ {
		if seen[e] < 50 {
			t.Errorf("only %d configs for error %d", seen[e], e)
		}
	}
}
