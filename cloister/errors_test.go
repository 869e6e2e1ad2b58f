package cloister

import (
	"fmt"
	"math"
	"reflect"
	"slices"
	"testing"

	"cloister/api"
)

var extremes = []int64{math.MinInt64, math.MinInt64 + 1, -1<<32 - 1, -1 << 32, -1 << 31, -1, 17, 48, 200, 201, 1<<31 - 1, 1 << 31, 1 << 32, 1<<32 + 1, 1 << 62, math.MaxInt64 - 1, math.MaxInt64}

// TestP1FirstNamed lays faults of all kinds in every mixture; the one named first is answered, with its own place.
func TestP1FirstNamed(t *testing.T) {
	faults := []turn{
		{"cells", func(c *api.Config) { c.Cells = slices.Repeat(c.Cells[:1], 7) }, api.ErrCells, 0},
		{"table", func(c *api.Config) { c.Table[1] = []api.Window{{Cell: 99, Budget: 1}} }, api.ErrTable, 1},
		{"chans", func(c *api.Config) { c.Chans[3].Kind = 9 }, api.ErrChans, 3},
		{"devs", func(c *api.Config) { c.Devs = []int{0, 1, 2, 99} }, api.ErrDevs, 3},
		{"code", func(c *api.Config) { c.Cells[2].Code[0].Op = 99 }, api.ErrCode, 2},
	}
	for mixture := range 1 << len(faults) {
		c := trio()
		e, at := api.OK, 0
		for n := len(faults) - 1; n >= 0; n-- {
			if mixture>>n&1 == 1 {
				faults[n].turn(&c)
				e, at = faults[n].e, faults[n].at
			}
		}
		check(t, fmt.Sprintf("mixture %05b", mixture), c, e, at)
	}
}

// TestP1Numbers puts the least, the greatest and other numbers into each field that holds one.
func TestP1Numbers(t *testing.T) {
	fields := map[string]func(c *api.Config, n int64){
		"Limit":       func(c *api.Config, n int64) { c.Cells[1].Limit = int(n) },
		"Image":       func(c *api.Config, n int64) { c.Cells[1].Image[0] = n },
		"Window.Cell": func(c *api.Config, n int64) { c.Table[0][1].Cell = int(n) },
		"Budget":      func(c *api.Config, n int64) { c.Table[0][1].Budget = int(n) },
		"Budgets": func(c *api.Config, n int64) {
			c.Table[1] = slices.Repeat([]api.Window{{Cell: 1, Budget: int(n)}}, api.MaxWindows)
		},
		"Kind": func(c *api.Config, n int64) { c.Chans[1].Kind = int(n) },
		"From": func(c *api.Config, n int64) { c.Chans[1].From = int(n) },
		"To":   func(c *api.Config, n int64) { c.Chans[1].To = int(n) },
		"Ends": func(c *api.Config, n int64) { c.Chans[1].From, c.Chans[1].To = int(n), int(n) },
		"Dev":  func(c *api.Config, n int64) { c.Devs[1] = int(n) },
		"Op":   func(c *api.Config, n int64) { c.Cells[1].Code[1].Op = int(n) },
		"R":    func(c *api.Config, n int64) { c.Cells[1].Code[1].R = int(n) },
		"A":    func(c *api.Config, n int64) { c.Cells[1].Code[1].A = int(n) },
		"N":    func(c *api.Config, n int64) { c.Cells[1].Code[1].N = n },
	}
	for what, put := range fields {
		for _, n := range extremes {
			c := trio()
			put(&c, n)
			e, at := wanted(c)
			check(t, fmt.Sprintf("%s is %d", what, n), c, e, at)
		}
	}
}

// TestP1Lists makes each list nil, empty and far too long.
func TestP1Lists(t *testing.T) {
	const far = 1 << 20
	lists := map[string]struct {
		put   func(c *api.Config, size int)
		short api.Errno // with nothing in it
		long  api.Errno
		at    int // of the error
	}{
		"Cells": {func(c *api.Config, size int) { c.Cells = sized[api.Cell](size) }, api.ErrCells, api.ErrCells, 0},
		"Table": {func(c *api.Config, size int) { c.Table = sized[[]api.Window](size) }, api.ErrTable, api.ErrTable, 0},
		"row":   {func(c *api.Config, size int) { c.Table[1] = sized[api.Window](size) }, api.OK, api.ErrTable, 1},
		"Chans": {func(c *api.Config, size int) { c.Chans = sized[api.Chan](size) }, api.OK, api.ErrChans, 0},
		"Devs":  {func(c *api.Config, size int) { c.Devs = sized[int](size) }, api.OK, api.ErrDevs, 0},
		"Code":  {func(c *api.Config, size int) { c.Cells[2].Code = sized[api.Ins](size) }, api.ErrCode, api.ErrCode, 2},
		"Image": {func(c *api.Config, size int) { c.Cells[2].Image = sized[int64](size) }, api.OK, api.ErrCode, 2},
	}
	for what, x := range lists {
		for _, size := range []int{-1, 0, far} {
			c := trio()
			for n := range c.Cells {
				c.Cells[n].Code = []api.Ins{{Op: api.Yield}}
			}
			x.put(&c, size)
			e, at := x.short, x.at
			if size == far {
				e = x.long
			}
			if e == api.OK {
				at = 0
			}
			check(t, fmt.Sprintf("%s of %d", what, size), c, e, at)
		}
	}
}

// sized makes a list; of the size -1 it is nil.
func sized[T any](size int) []T {
	if size < 0 {
		return nil
	}
	return make([]T, size)
}

// TestP1Nothing hands in configs of which hardly anything is there.
func TestP1Nothing(t *testing.T) {
	check(t, "nothing", api.Config{}, api.ErrCells, 0)
	check(t, "a cell", api.Config{Cells: make([]api.Cell, 1)}, api.ErrTable, 0)
	check(t, "a cell and a row", api.Config{Cells: make([]api.Cell, 1), Table: make([][]api.Window, 1)}, api.ErrCode, 0)
	check(t, "with code", least(), api.OK, 0)
}

// TestP1Calls makes every call on kernels of all sorts, with all numbers and with lists of all sizes.
func TestP1Calls(t *testing.T) {
	lists := [][]api.In{nil, {}, make([]api.In, 4), make([]api.In, 5), make([]api.In, 1<<20)}
	for _, n := range extremes {
		lists = append(lists, slices.Repeat([]api.In{{Dev: int(n), N: n}}, 4))
	}
	for what, c := range map[string]api.Config{"least": least(), "trio": trio(), "fullest": fullest(), "twins": twins(), "readers": readers(), "bustle": bustle()} {
		k := made(t, c)
		frames := 0
		for n, in := range slices.Repeat(lists, 3) {
			before := lookAll(k, len(c.Cells))
			e := k.Frame(in)
			if (e == api.ErrMany) != (len(in) > 4) || e != api.OK && e != api.ErrMany {
				t.Errorf("%s: list %d of %d inputs: Frame answers %d", what, n, len(in), e)
			}
			after := lookAll(k, len(c.Cells))
			if e != api.OK && !reflect.DeepEqual(before, after) {
				t.Errorf("%s: refused, and yet %+v became %+v", what, before, after)
			}
			if e == api.OK {
				frames++
			}
		}
		if want := 3 * (len(lists) - 2); frames != want {
			t.Errorf("%s: %d frames, want %d", what, frames, want)
		}
	}
}
