// Package cells: a cell: its state, its steps, its windows.
package cells

import (
	"slices"

	"cloister/api"
	"cloister/chans"
)

// Cell is a program with all that is kept of it from window to window.
type Cell struct {
	number int
	net    *chans.Net
	code   []api.Ins
	limit  int
	first  state // what the cell is like again when it has broken
	now    state
	steps  int
	broken int
}

type state struct {
	regs   [api.Regs]int64
	memory [api.Words]int64
	next   int // the number of the instruction that comes next
}

// New makes the cell of that number, which shares the net with the others. Its program is one that
// may be, so that it uses of the net only what is the cell's. Nothing of the program's lists is kept.
func New(number int, program api.Cell, net *chans.Net) *Cell {
	c := &Cell{number: number, net: net, code: slices.Clone(program.Code), limit: program.Limit}
	copy(c.first.memory[:], program.Image)
	c.now = c.first
	return c
}

// Memory tells the words of the cell's memory, in a list of their own.
func (c *Cell) Memory() []int64 {
	return slices.Clone(c.now.memory[:])
}

// Stats tells how the cell is.
func (c *Cell) Stats() api.Stats {
	return api.Stats{Steps: c.steps, Broken: c.broken, Stopped: c.stopped()}
}

func (c *Cell) stopped() bool {
	return c.broken > c.limit
}
