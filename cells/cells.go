// Package cells: one cell by itself: its state, its steps, its windows.
package cells

import (
	"slices"

	"cloister/api"
)

// Cell is a program with all that is kept of it from window to window.
type Cell struct {
	code   []api.Ins
	limit  int
	first  state // what the cell is like again when it has broken
	now    state
	steps  int
	broken int
}

type state struct {
	regs   [api.Regs]int64
	memory [api.Words]int64
	next   int // the number of the instruction that comes next
}

// New makes a cell of a program that may be, and keeps nothing of what it is handed.
func New(program api.Cell) *Cell {
	c := &Cell{code: slices.Clone(program.Code), limit: program.Limit}
	copy(c.first.memory[:], program.Image)
	c.now = c.first
	return c
}

// Memory tells the words of the cell's memory, in a list of their own.
func (c *Cell) Memory() []int64 {
	return slices.Clone(c.now.memory[:])
}

// Stats tells how the cell is.
func (c *Cell) Stats() api.Stats {
	return api.Stats{Steps: c.steps, Broken: c.broken, Stopped: c.stopped()}
}

func (c *Cell) stopped() bool {
	return c.broken > c.limit
}
