package cloister

import (
	"fmt"
	"math/rand"
	"reflect"
	"runtime"
	"slices"
	"sync"
	"testing"
	"time"

	"cloister/api"
)

// pair is a config with the inputs of its frames, and what the model tells of it after them.
type pair struct {
	config api.Config
	inputs [][]api.In
	want   []seen
}

const pairFrames = 10

func pairs(r *rand.Rand, count int) []pair {
	var out []pair
	for range count {
		c := somePrograms(r)
		m := modelOf(copyOf(c))
		var inputs [][]api.In
		for range pairFrames {
			in := someInputs(r)
			in = in[:min(len(in), api.MaxDevs)]
			m.frame(in)
			inputs = append(inputs, in)
		}
		out = append(out, pair{c, inputs, m.lookAll()})
	}
	return out
}

func (p pair) check(t *testing.T, what string, k *Kernel) {
	t.Helper()
	if got := lookAll(k, len(p.config.Cells)); !reflect.DeepEqual(got, p.want) {
		t.Errorf("%s: %+v\nis %+v, want %+v", what, p.config, got, p.want)
	}
}

// TestP2OnFramesAlone: what is asked between frames, and frames that are refused, change nothing.
func TestP2OnFramesAlone(t *testing.T) {
	r := rand.New(rand.NewSource(21))
	for _, p := range pairs(r, 100) {
		k := made(t, p.config)
		for _, in := range p.inputs {
			for range r.Intn(5) {
				cell := r.Intn(9) - 1
				k.Trace(cell)
				k.Memory(cell)
				k.Stats(cell)
				k.Above(cell)
				k.Frame(slices.Repeat([]api.In{{Dev: r.Intn(api.MaxDevs), N: 77}}, 5+r.Intn(3)))
			}
			runWith(t, k, in...)
		}
		p.check(t, "asked between frames", k)
		p.check(t, "asked again", k)
	}
}

// TestP2InterleavedKernels runs frames of many kernels by turns, some of them of one config.
func TestP2InterleavedKernels(t *testing.T) {
	ps := pairs(rand.New(rand.NewSource(22)), 40)
	ps = append(ps, ps...)
	var ks []*Kernel
	for _, p := range ps {
		ks = append(ks, made(t, p.config))
	}
	for frame := range pairFrames {
		for n, k := range ks {
			runWith(t, k, ps[n].inputs[frame]...)
		}
	}
	for n, p := range ps {
		p.check(t, "by turns", ks[n])
	}
}

// TestP2KernelsAtOnce runs many kernels at the same time, all of them of the same lists.
func TestP2KernelsAtOnce(t *testing.T) {
	ps := pairs(rand.New(rand.NewSource(23)), 20)
	var all sync.WaitGroup
	for range 8 {
		all.Go(func() {
			for _, p := range ps {
				k, e, _ := New(p.config)
				for _, in := range p.inputs {
					e = max(e, k.Frame(in))
				}
				if e != api.OK {
					t.Errorf("at once: %d", e)
				}
				p.check(t, "at once", k)
			}
		})
	}
	all.Wait()
}

// TestP2ConfigChangedLater writes into all lists of a config, and behind them, when its kernel is there.
func TestP2ConfigChangedLater(t *testing.T) {
	for _, p := range pairs(rand.New(rand.NewSource(24)), 100) {
		c := roomy(p.config)
		k := made(t, c)
		inner := widened(c)
		for _, in := range p.inputs {
			ruin(inner)
			fill(c.Cells[:cap(c.Cells)], api.Cell{Limit: 99})
			fill(c.Table[:cap(c.Table)], nil)
			runWith(t, k, in...)
		}
		p.check(t, "the config was changed later", k)
	}
}

// ruin writes into the channels and devices, and into the lists within those of the cells and the rows.
func ruin(c api.Config) {
	fill(c.Chans, api.Chan{Kind: 3, From: 99, To: 99})
	fill(c.Devs, 99)
	for n := range c.Cells {
		fill(c.Cells[n].Code, api.Ins{Op: api.Log, R: 2, N: 99})
		fill(c.Cells[n].Image, 99)
	}
	for n := range c.Table {
		fill(c.Table[n], api.Window{Budget: 1})
	}
}

func fill[T any](list []T, x T) {
	for n := range list {
		list[n] = x
	}
}

// bustle is two cells that ask, send and write all that they may, without an end.
func bustle() api.Config {
	c := couple(forever, forever)
	for cell := range c.Cells {
		uses := usesOf(c, cell)
		for n := range uses {
			uses[n].R, uses[n].A = n%api.Regs, (n+1)%api.Regs
		}
		c.Cells[cell].Code = append(uses, say(0), say(1), say(2), say(3), jump(0))
	}
	return c
}

func TestP2InputsNotWritten(t *testing.T) {
	for size := range 7 {
		k := made(t, bustle())
		in := spare(slices.Repeat([]api.In{{Dev: 1, N: 5}}, size), api.In{Dev: 77, N: 77})
		whole := slices.Clone(in[:cap(in)])
		for range 6 {
			k.Frame(in)
		}
		if !slices.Equal(whole, in[:cap(in)]) {
			t.Errorf("%d inputs: Frame wrote into them: %v", size, in[:cap(in)])
		}
	}
}

// TestP2InputsChangedLater writes into one list of inputs again and again: each frame goes by what stands there then, and not by what stands behind its end.
func TestP2InputsChangedLater(t *testing.T) {
	one, other := made(t, readers()), made(t, readers())
	list := make([]api.In, 2, 4)
	for n := range int64(6) {
		fill(list[:4], api.In{Dev: 2, N: 77})
		list[0], list[1] = api.In{Dev: 0, N: n}, api.In{Dev: 1, N: -n}
		says(t, "what stands there then", one, 0, []int64{n, 1, 0, 0}, list...)
		runWith(t, other, list[:1]...)
		fill(list[:4], api.In{Dev: 0, N: 99})
		says(t, "what stood there earlier", other, 0, []int64{0, 0, 0, 0})
	}
}

// TestP2NewMemory writes into every list that comes out, and behind it.
func TestP2NewMemory(t *testing.T) {
	for _, p := range pairs(rand.New(rand.NewSource(25)), 60) {
		k := made(t, p.config)
		for _, in := range p.inputs {
			spoilAnswers(k, len(p.config.Cells))
			runWith(t, k, in...)
		}
		spoilAnswers(k, len(p.config.Cells))
		p.check(t, "the answers were written into", k)
	}
}

func spoilAnswers(k *Kernel, cells int) {
	for cell := range cells {
		trace, _ := k.Trace(cell)
		memory, _ := k.Memory(cell)
		above, _ := k.Above(cell)
		fill(trace[:cap(trace)], api.Event{Kind: 77, A: 77, B: 77})
		fill(memory[:cap(memory)], 77)
		fill(above[:cap(above)], 77)
	}
}

// TestP2NoTwoShare: of two answers neither is changed through the other, nor by frames that come later.
func TestP2NoTwoShare(t *testing.T) {
	c := twins()
	c.Chans = trio().Chans
	k := ran(t, c, 3)
	for cell := range 2 {
		trace, _ := k.Trace(cell)
		memory, _ := k.Memory(cell)
		above, _ := k.Above(cell)
		events, words, cells := slices.Clone(trace), slices.Clone(memory), slices.Clone(above)
		spoilAnswers(k, 2)
		run(t, k, 3)
		spoilAnswers(k, 2)
		if !slices.Equal(trace, events) || !slices.Equal(memory, words) || !slices.Equal(above, cells) {
			t.Errorf("cell %d: the answers became %v, %v and %v", cell, trace, memory, above)
		}
	}
}

// TestP2NoGoroutineLeft looks after each call, whatever a window ends by.
func TestP2NoGoroutineLeft(t *testing.T) {
	r := rand.New(rand.NewSource(26))
	before := runtime.NumGoroutine()
	for n := range 300 {
		c := somePrograms(r)
		New(api.Config{})
		k := made(t, c)
		noMoreThan(t, before, fmt.Sprintf("config %d: New", n))
		for range 4 {
			runWith(t, k, api.In{Dev: 1, N: 5})
			noMoreThan(t, before, fmt.Sprintf("config %d: Frame", n))
			k.Frame(make([]api.In, 5))
			lookAll(k, len(c.Cells))
			noMoreThan(t, before, fmt.Sprintf("config %d: the other calls", n))
		}
	}
}

// noMoreThan lets a goroutine that has done its last step get out: the runtime counts it for a moment longer.
func noMoreThan(t *testing.T, before int, what string) {
	t.Helper()
	for range 1000 {
		if runtime.NumGoroutine() <= before {
			return
		}
		time.Sleep(time.Millisecond)
	}
	t.Fatalf("%s: %d goroutines before, %d after", what, before, runtime.NumGoroutine())
}
