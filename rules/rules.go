// Package rules: which configs may be, and the first thing in one that may not (P3).
package rules

import (
	"slices"

	"cloister/api"
)

// none is the place of a fault where there is none.
const none = -1

// Check answers the first error of a config and its place, or OK and 0.
func Check(c api.Config) (api.Errno, int) {
	cells := len(c.Cells)
	if cells < 1 || cells > api.MaxCells {
		return api.ErrCells, 0
	}
	if at := faultyRow(c.Table, cells); at != none {
		return api.ErrTable, at
	}
	if at := faultyChan(c.Chans, cells); at != none {
		return api.ErrChans, at
	}
	if at := faultyDev(c.Devs, cells); at != none {
		return api.ErrDevs, at
	}
	if at := faultyCell(c); at != none {
		return api.ErrCode, at
	}
	return api.OK, 0
}

func faultyRow(table [][]api.Window, cells int) int {
	if len(table) < 1 || len(table) > api.MaxRows {
		return 0
	}
	return slices.IndexFunc(table, func(row []api.Window) bool { return !rowMayBe(row, cells) })
}

func rowMayBe(row []api.Window, cells int) bool {
	if len(row) > api.MaxWindows {
		return false
	}
	left := api.MaxBudget
	for _, w := range row {
		// Each budget is held against what is left, because a sum of them could wrap round.
		if !numbers(w.Cell, cells) || w.Budget < 1 || w.Budget > left {
			return false
		}
		left -= w.Budget
	}
	return true
}

func faultyChan(chans []api.Chan, cells int) int {
	if len(chans) > api.MaxChans {
		return 0
	}
	return slices.IndexFunc(chans, func(c api.Chan) bool { return !chanMayBe(c, cells) })
}

func chanMayBe(c api.Chan, cells int) bool {
	if c.Kind != api.Queue && c.Kind != api.Sample {
		return false
	}
	return numbers(c.From, cells) && numbers(c.To, cells) && c.From != c.To
}

func faultyDev(devs []int, cells int) int {
	if len(devs) > api.MaxDevs {
		return 0
	}
	return slices.IndexFunc(devs, func(cell int) bool { return !numbers(cell, cells) })
}

// numbers tells whether n is the number of one of so many things, numbered from 0 on.
func numbers[N int | int64](n N, count int) bool {
	return n >= 0 && n < N(count)
}
