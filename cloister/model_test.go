package cloister

import (
	"math/big"
	"math/rand"
	"reflect"
	"testing"

	"cloister/api"
)

// model is P4, P5 and P8, written down a second time for cells alone: no panic, no
// goroutine, numbers without an end that are cut only where they are stored.
type model struct {
	config api.Config
	frames int
	cells  []modelled
}

type modelled struct {
	program   api.Cell
	registers map[int]int64
	words     map[int64]int64
	next      int
	told      seen
}

func modelOf(c api.Config) *model {
	m := &model{config: c}
	for _, program := range c.Cells {
		x := modelled{program: program}
		x.asAtFirst()
		m.cells = append(m.cells, x)
	}
	return m
}

func (x *modelled) asAtFirst() {
	x.registers, x.words, x.next = map[int]int64{}, map[int64]int64{}, 0
	for n, word := range x.program.Image {
		x.words[int64(n)] = word
	}
}

func (m *model) frame(inputs int) api.Errno {
	if inputs > 4 {
		return api.ErrMany
	}
	for _, w := range m.config.Table[m.frames%len(m.config.Table)] {
		m.cells[w.Cell].window(w.Budget)
	}
	m.frames++
	return api.OK
}

func (x *modelled) window(budget int) {
	if x.told.stats.Stopped {
		x.tell(3, 0, 4)
		return
	}
	for done := 1; ; done++ {
		x.told.stats.Steps++
		yields, breaks := x.step()
		if breaks != 0 {
			x.told.stats.Broken++
			x.told.stats.Stopped = x.told.stats.Broken == x.program.Limit+1
			x.asAtFirst()
			x.tell(2, breaks, int64(x.told.stats.Broken))
		}
		switch {
		case yields:
			x.tell(3, int64(done), 1)
		case breaks != 0:
			x.tell(3, int64(done), 3)
		case done == budget:
			x.tell(3, int64(done), 2)
		default:
			continue
		}
		return
	}
}

func (x *modelled) tell(kind int, a, b int64) {
	x.told.trace = append(x.told.trace, api.Event{Kind: kind, A: a, B: b})
}

// step answers whether the window ends by it, and why the cell breaks, or 0.
func (x *modelled) step() (bool, int64) {
	if x.next >= len(x.program.Code) {
		return false, 3
	}
	i := x.program.Code[x.next]
	x.next++
	r, a := x.registers[i.R], x.registers[i.A]
	switch i.Op {
	case 0:
		return true, 0
	case 1:
		x.registers[i.R] = i.N
	case 2, 3, 4, 5:
		if i.Op == 5 && a == 0 {
			return false, 1
		}
		x.registers[i.R] = reckoned(i.Op, r, a)
	case 6, 7:
		if a < 0 || a > 15 {
			return false, 2
		}
		if i.Op == 6 {
			x.registers[i.R] = x.words[a]
		} else {
			x.words[a] = r
		}
	case 8, 9:
		if i.Op == 8 || r == 0 {
			x.next = int(i.N)
		}
	case 15:
		x.tell(1, r, 0)
	}
	return false, 0
}

// reckoned works with numbers of any size, and cuts the result to 64 bits with a sign.
func reckoned(op int, r, a int64) int64 {
	x, y := big.NewInt(r), big.NewInt(a)
	switch op {
	case 2:
		x.Add(x, y)
	case 3:
		x.Sub(x, y)
	case 4:
		x.Mul(x, y)
	case 5:
		x.Quo(x, y)
	}
	whole := new(big.Int).Lsh(big.NewInt(1), 64)
	x.Mod(x, whole)
	if x.Bit(63) == 1 {
		x.Sub(x, whole)
	}
	return x.Int64()
}

func (m *model) look(cell int) seen {
	s := m.cells[cell].told
	for n, word := range m.cells[cell].words {
		s.memory[n] = word
	}
	return s
}

func (m *model) lookAll() []seen {
	var all []seen
	for cell := range m.cells {
		all = append(all, m.look(cell))
	}
	return all
}

// someProgram has loops, and reaches the edges of memory and numbers now and then.
func someProgram(r *rand.Rand) api.Cell {
	program := api.Cell{Limit: r.Intn(api.MaxLimit + 1)}
	for range r.Intn(api.Words + 1) {
		program.Image = append(program.Image, someNumber(r))
	}
	size := 1 + r.Intn(12)
	if r.Intn(5) == 0 {
		size = api.MaxCode
	}
	ops := []int{api.Yield, api.Set, api.Set, api.Set, api.Add, api.Sub, api.Mul, api.Div, api.Load, api.Store, api.Jump, api.Zero, api.Log, api.Log}
	for range size {
		i := api.Ins{Op: ops[r.Intn(len(ops))], R: r.Intn(api.Regs), A: r.Intn(api.Regs), N: someNumber(r)}
		if i.Op == api.Jump || i.Op == api.Zero {
			i.N = int64(r.Intn(size))
		}
		if i.Op == api.Set && r.Intn(2) == 0 {
			i.N = int64(r.Intn(api.Words))
		}
		program.Code = append(program.Code, i)
	}
	return program
}

// somePrograms is a config of cells alone.
func somePrograms(r *rand.Rand) api.Config {
	var c api.Config
	for range 1 + r.Intn(api.MaxCells) {
		c.Cells = append(c.Cells, someProgram(r))
	}
	for range 1 + r.Intn(api.MaxRows) {
		var row []api.Window
		for range r.Intn(api.MaxWindows + 1) {
			row = append(row, api.Window{Cell: r.Intn(len(c.Cells)), Budget: 1 + r.Intn(api.MaxBudget/api.MaxWindows)})
		}
		c.Table = append(c.Table, row)
	}
	return c
}

// TestMany runs many programs beside the model, and holds all that is told against it after each frame.
func TestMany(t *testing.T) {
	r := rand.New(rand.NewSource(11))
	met := map[api.Event]int{}
	for n := range 1500 {
		c := somePrograms(r)
		m, k := modelOf(copyOf(c)), made(t, c)
		for frame := range 12 {
			in := make([]api.In, r.Intn(6))
			if want, got := m.frame(len(in)), k.Frame(in); got != want {
				t.Fatalf("config %d: Frame %d with %d inputs answers %d, want %d", n, frame, len(in), got, want)
			}
			if want, got := m.lookAll(), lookAll(k, len(c.Cells)); !reflect.DeepEqual(got, want) {
				t.Fatalf("config %d: %+v\nframe %d: %+v, want %+v", n, c, frame, got, want)
			}
		}
		for _, x := range m.cells {
			for _, e := range x.told.trace {
				met[sortOf(e)]++
			}
		}
	}
	for _, e := range []api.Event{said(0), broke(1, 0), broke(2, 0), broke(3, 0), closed(0, 1), closed(0, 2), closed(0, 3), closed(0, 4)} {
		if met[e] < 100 {
			t.Errorf("of the sort %+v there were only %d events", e, met[e])
		}
	}
}

// sortOf leaves of an event what it is, without how much.
func sortOf(e api.Event) api.Event {
	switch e.Kind {
	case api.Said:
		e.A = 0
	case api.Broke:
		e.B = 0
	case api.Closed:
		e.A = 0
	}
	return e
}
