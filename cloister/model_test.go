package cloister

import (
	"math/big"
	"math/rand"
	"reflect"
	"testing"

	"cloister/api"
)

// model is P4 to P9, written down a second time: no panic, no goroutine, numbers without an end
// that are cut only where they are stored, and one list of all that was sent and written.
type model struct {
	config api.Config
	frames int
	cells  []modelled
	posts  []post // of this frame
	waits  map[int64][]int64
	lost   map[int64]int64
	shows  map[int64]shown
	met    map[string]int // how often something worth a look came about
}

type modelled struct {
	program   api.Cell
	registers map[int]int64
	words     map[int64]int64
	next      int
	told      seen
}

// post is a message or what a sample is to show.
type post struct {
	cell       int
	channel, n int64
}

// shown is what a sample shows, and the frame that brought it.
type shown struct {
	n     int64
	frame int
}

func modelOf(c api.Config) *model {
	m := &model{config: c, waits: map[int64][]int64{}, lost: map[int64]int64{}, shows: map[int64]shown{}, met: map[string]int{}}
	for _, program := range c.Cells {
		x := modelled{program: program}
		x.asAtFirst()
		m.cells = append(m.cells, x)
	}
	return m
}

func (x *modelled) asAtFirst() {
	x.registers, x.words, x.next = map[int]int64{}, map[int64]int64{}, 0
	for n, word := range x.program.Image {
		x.words[int64(n)] = word
	}
}

func (m *model) frame(in []api.In) api.Errno {
	if len(in) > 4 {
		return api.ErrMany
	}
	said := map[int]int64{}
	for n := len(in) - 1; n >= 0; n-- {
		said[in[n].Dev] = in[n].N
	}
	for _, w := range m.config.Table[m.frames%len(m.config.Table)] {
		m.window(w, said)
	}
	m.endFrame()
	m.frames++
	return api.OK
}

func (m *model) endFrame() {
	for _, p := range m.posts {
		switch {
		case m.config.Chans[p.channel].Kind == 2:
			if m.shows[p.channel].n == p.n {
				m.met["the same number written"]++
			}
			m.shows[p.channel] = shown{p.n, m.frames}
		case len(m.waits[p.channel]) == 4:
			m.lost[p.channel]++
		default:
			m.waits[p.channel] = append(m.waits[p.channel], p.n)
		}
	}
	m.posts = nil
}

func (m *model) window(w api.Window, said map[int]int64) {
	x := &m.cells[w.Cell]
	if x.told.stats.Stopped {
		x.tell(3, 0, 4)
		return
	}
	for done := 1; ; done++ {
		x.told.stats.Steps++
		yields, breaks := m.step(w.Cell, said)
		if breaks != 0 {
			x.told.stats.Broken++
			x.told.stats.Stopped = x.told.stats.Broken == x.program.Limit+1
			x.asAtFirst()
			m.forget(w.Cell)
			x.tell(2, breaks, int64(x.told.stats.Broken))
		}
		switch {
		case yields:
			x.tell(3, int64(done), 1)
		case breaks != 0:
			x.tell(3, int64(done), 3)
		case done == w.Budget:
			x.tell(3, int64(done), 2)
		default:
			continue
		}
		return
	}
}

func (m *model) forget(cell int) {
	var left []post
	for _, p := range m.posts {
		if p.cell != cell {
			left = append(left, p)
			m.met["another one's post at a break"]++
		} else {
			m.met["a post forgotten"]++
		}
	}
	m.posts = left
}

func (x *modelled) tell(kind int, a, b int64) {
	x.told.trace = append(x.told.trace, api.Event{Kind: kind, A: a, B: b})
}

// step answers whether the window ends by it, and why the cell breaks, or 0.
func (m *model) step(cell int, said map[int]int64) (bool, int64) {
	x := &m.cells[cell]
	if x.next >= len(x.program.Code) {
		return false, 3
	}
	i := x.program.Code[x.next]
	x.next++
	r, a := x.registers[i.R], x.registers[i.A]
	switch i.Op {
	case 0:
		return true, 0
	case 1:
		x.registers[i.R] = i.N
	case 2, 3, 4, 5:
		if i.Op == 5 && a == 0 {
			return false, 1
		}
		x.registers[i.R] = reckoned(i.Op, r, a)
	case 6, 7:
		if a < 0 || a > 15 {
			return false, 2
		}
		if i.Op == 6 {
			x.registers[i.R] = x.words[a]
		} else {
			x.words[a] = r
		}
	case 8, 9:
		if i.Op == 8 || r == 0 {
			x.next = int(i.N)
		}
	case 10, 11:
		m.posts = append(m.posts, post{cell, i.N, r})
	case 15:
		x.tell(1, r, 0)
	default:
		m.ask(x, i, said)
	}
	return false, 0
}

// ask does what brings something to a cell.
func (m *model) ask(x *modelled, i api.Ins, said map[int]int64) {
	switch i.Op {
	case 12:
		x.registers[i.R], x.registers[i.A] = 0, 0
		if l := m.waits[i.N]; len(l) > 0 {
			m.waits[i.N] = l[1:]
			x.registers[i.R] = l[0]
			x.registers[i.A] = 1
			m.met["a message taken"]++
		} else {
			m.met["no message"]++
		}
	case 13:
		x.registers[i.R], x.registers[i.A] = 0, -1
		if s, ok := m.shows[i.N]; ok {
			x.registers[i.R] = s.n
			x.registers[i.A] = int64(m.frames - s.frame - 1)
			m.met["a sample read"]++
			if m.frames > s.frame+1 {
				m.met["an old sample read"]++
			}
		} else {
			m.met["a sample that shows nothing"]++
		}
	case 14:
		x.registers[i.R], x.registers[i.A] = 0, 0
		if n, ok := said[int(i.N)]; ok {
			x.registers[i.R] = n
			x.registers[i.A] = 1
			m.met["an input"]++
		} else {
			m.met["no input"]++
		}
	case 16:
		x.registers[i.R] = m.lost[i.N]
		if m.lost[i.N] > 0 {
			m.met["messages lost"]++
		}
		m.lost[i.N] = 0
	}
}

// reckoned works with numbers of any size, and cuts the result to 64 bits with a sign.
func reckoned(op int, r, a int64) int64 {
	x, y := big.NewInt(r), big.NewInt(a)
	switch op {
	case 2:
		x.Add(x, y)
	case 3:
		x.Sub(x, y)
	case 4:
		x.Mul(x, y)
	case 5:
		x.Quo(x, y)
	}
	whole := new(big.Int).Lsh(big.NewInt(1), 64)
	x.Mod(x, whole)
	if x.Bit(63) == 1 {
		x.Sub(x, whole)
	}
	return x.Int64()
}

func (m *model) look(cell int) seen {
	s := m.cells[cell].told
	s.above = wantedAbove(m.config, cell)
	for n, word := range m.cells[cell].words {
		s.memory[n] = word
	}
	return s
}

func (m *model) lookAll() []seen {
	var all []seen
	for cell := range m.cells {
		all = append(all, m.look(cell))
	}
	return all
}

// someProgram has loops, and reaches the edges of memory and numbers now and then. Half of it are instructions of the uses, if there are any.
func someProgram(r *rand.Rand, uses []api.Ins) api.Cell {
	program := api.Cell{Limit: r.Intn(api.MaxLimit + 1)}
	for range r.Intn(api.Words + 1) {
		program.Image = append(program.Image, someNumber(r))
	}
	size := 1 + r.Intn(12)
	if r.Intn(5) == 0 {
		size = api.MaxCode
	}
	ops := []int{api.Yield, api.Set, api.Set, api.Set, api.Add, api.Sub, api.Mul, api.Div, api.Load, api.Store, api.Jump, api.Zero, api.Log, api.Log}
	for range size {
		i := api.Ins{Op: ops[r.Intn(len(ops))], N: someNumber(r)}
		if len(uses) > 0 && r.Intn(2) == 0 {
			i = uses[r.Intn(len(uses))]
		}
		i.R, i.A = r.Intn(api.Regs), r.Intn(api.Regs)
		if i.Op == api.Jump || i.Op == api.Zero {
			i.N = int64(r.Intn(size))
		}
		if i.Op == api.Set && r.Intn(2) == 0 {
			i.N = int64(r.Intn(api.Words))
		}
		program.Code = append(program.Code, i)
	}
	return program
}

// usesOf are the instructions of channels and devices that a cell may have.
func usesOf(c api.Config, cell int) []api.Ins {
	var uses []api.Ins
	for op := range 17 {
		for n := range int64(8) {
			if i := (api.Ins{Op: op, N: n}); op >= api.Send && op != api.Log && wantedIns(c, cell, i) {
				uses = append(uses, i)
			}
		}
	}
	return uses
}

// somePrograms has channels and devices, but for every fourth config.
func somePrograms(r *rand.Rand) api.Config {
	c := api.Config{Cells: make([]api.Cell, 1+r.Intn(api.MaxCells))}
	cells := len(c.Cells)
	if r.Intn(4) > 0 {
		for range r.Intn(api.MaxChans + 1) {
			if from, to := r.Intn(cells), r.Intn(cells); from != to {
				c.Chans = append(c.Chans, api.Chan{Kind: 1 + r.Intn(2), From: from, To: to})
			}
		}
		for range r.Intn(api.MaxDevs + 1) {
			c.Devs = append(c.Devs, r.Intn(cells))
		}
	}
	for cell := range cells {
		c.Cells[cell] = someProgram(r, usesOf(c, cell))
	}
	for range 1 + r.Intn(api.MaxRows) {
		var row []api.Window
		for range r.Intn(api.MaxWindows + 1) {
			row = append(row, api.Window{Cell: r.Intn(cells), Budget: 1 + r.Intn(api.MaxBudget/api.MaxWindows)})
		}
		c.Table = append(c.Table, row)
	}
	return c
}

// someInputs are of devices that there are and that there are not, some of them twice; at times there are too many.
func someInputs(r *rand.Rand) []api.In {
	in := make([]api.In, r.Intn(6))
	for n := range in {
		in[n] = api.In{Dev: r.Intn(api.MaxDevs), N: someNumber(r)}
		if r.Intn(4) == 0 {
			in[n].Dev = int(someNumber(r))
		}
	}
	return in
}

// TestMany runs many programs beside the model, and holds all that is told against it after each frame.
func TestMany(t *testing.T) {
	r := rand.New(rand.NewSource(11))
	events, met := map[api.Event]int{}, map[string]int{}
	for n := range 3000 {
		c := somePrograms(r)
		m, k := modelOf(copyOf(c)), made(t, c)
		for frame := range 12 {
			in := someInputs(r)
			if want, got := m.frame(in), k.Frame(in); got != want {
				t.Fatalf("config %d: Frame %d with %d inputs answers %d, want %d", n, frame, len(in), got, want)
			}
			if want, got := m.lookAll(), lookAll(k, len(c.Cells)); !reflect.DeepEqual(got, want) {
				t.Fatalf("config %d: %+v\nframe %d: %+v, want %+v", n, c, frame, got, want)
			}
		}
		for _, x := range m.cells {
			for _, e := range x.told.trace {
				events[sortOf(e)]++
			}
		}
		for what, often := range m.met {
			met[what] += often
		}
	}
	for _, e := range []api.Event{said(0), broke(1, 0), broke(2, 0), broke(3, 0), closed(0, 1), closed(0, 2), closed(0, 3), closed(0, 4)} {
		if events[e] < 100 {
			t.Errorf("of the sort %+v there were only %d events", e, events[e])
		}
	}
	for _, what := range []string{"a message taken", "no message", "messages lost", "a sample read", "an old sample read", "the same number written", "a sample that shows nothing", "an input", "no input", "a post forgotten", "another one's post at a break"} {
		if met[what] < 100 {
			t.Errorf("%s: only %d times", what, met[what])
		}
	}
}

// sortOf leaves of an event what it is, without how much.
func sortOf(e api.Event) api.Event {
	switch e.Kind {
	case api.Said:
		e.A = 0
	case api.Broke:
		e.B = 0
	case api.Closed:
		e.A = 0
	}
	return e
}
