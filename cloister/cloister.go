// Package cloister: a kernel that keeps programs apart: see DOC.md.
package cloister

import (
	"slices"

	"cloister/api"
	"cloister/cells"
	"cloister/chans"
	"cloister/rules"
)

// Kernel runs cells.
type Kernel struct {
	table  [][]api.Window
	row    int // the one that the next frame runs
	cells  []*cells.Cell
	net    *chans.Net
	traces [][]api.Event
}

// New looks at a config, and makes a kernel (P3).
func New(c api.Config) (*Kernel, api.Errno, int) {
	if e, at := rules.Check(c); e != api.OK {
		return nil, e, at
	}
	k := &Kernel{net: chans.New(c.Chans), traces: make([][]api.Event, len(c.Cells))}
	for _, row := range c.Table {
		k.table = append(k.table, slices.Clone(row))
	}
	for n, program := range c.Cells {
		k.cells = append(k.cells, cells.New(n, program, k.net))
	}
	return k, api.OK, 0
}

// Frame runs one row of the table, with what the devices say meanwhile (P4).
func (k *Kernel) Frame(in []api.In) api.Errno {
	if len(in) > api.MaxDevs {
		return api.ErrMany
	}
	for _, w := range k.table[k.row] {
		k.runWindow(w, in)
	}
	k.net.EndFrame()
	k.row = (k.row + 1) % len(k.table)
	return api.OK
}

func (k *Kernel) runWindow(w api.Window, in []api.In) {
	for e := range k.cells[w.Cell].Window(w.Budget, in) {
		k.traces[w.Cell] = append(k.traces[w.Cell], e)
	}
}

// Trace tells what a cell has done so far (P8).
func (k *Kernel) Trace(cell int) ([]api.Event, api.Errno) {
	if !k.has(cell) {
		return nil, api.ErrNone
	}
	return slices.Clone(k.traces[cell]), api.OK
}

// Memory tells what stands in a cell's memory (P8).
func (k *Kernel) Memory(cell int) ([]int64, api.Errno) {
	if !k.has(cell) {
		return nil, api.ErrNone
	}
	return k.cells[cell].Memory(), api.OK
}

// Stats tells how a cell is (P8).
func (k *Kernel) Stats(cell int) (api.Stats, api.Errno) {
	if !k.has(cell) {
		return api.Stats{}, api.ErrNone
	}
	return k.cells[cell].Stats(), api.OK
}

// Above tells from which cells something may come to a cell (P9).
func (k *Kernel) Above(cell int) ([]int, api.Errno) {
	if !k.has(cell) {
		return nil, api.ErrNone
	}
	return k.net.Above(cell), api.OK
}

func (k *Kernel) has(cell int) bool {
	return cell >= 0 && cell < len(k.cells)
}
