// Package cloister: a kernel that keeps programs apart: see DOC.md.
package cloister

import (
	"cloister/api"
	"cloister/rules"
)

// Kernel runs cells.
type Kernel struct{}

// New looks at a config, and makes a kernel (P3).
func New(c api.Config) (*Kernel, api.Errno, int) {
	if e, at := rules.Check(c); e != api.OK {
		return nil, e, at
	}
	return &Kernel{}, api.OK, 0
}

// Frame runs one row of the table (P4).
func (k *Kernel) Frame(in []api.In) api.Errno { return api.OK }

// Trace tells what a cell has done so far (P8).
func (k *Kernel) Trace(cell int) ([]api.Event, api.Errno) { return nil, api.OK }

// Memory tells what stands in a cell's memory (P8).
func (k *Kernel) Memory(cell int) ([]int64, api.Errno) { return nil, api.OK }

// Stats tells how a cell is (P8).
func (k *Kernel) Stats(cell int) (api.Stats, api.Errno) { return api.Stats{}, api.OK }

// Above tells from which cells something may come to a cell (P9).
func (k *Kernel) Above(cell int) ([]int, api.Errno) { return nil, api.OK }
