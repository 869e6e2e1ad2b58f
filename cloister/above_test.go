package cloister

import (
	"fmt"
	"math/rand"
	"slices"
	"testing"

	"cloister/api"
)

// linked is so many cells that do nothing, and a channel for each pair of ends; the kinds take turns.
func linked(cells int, pairs ...[2]int) api.Config {
	c := api.Config{Table: [][]api.Window{nil}}
	for range cells {
		c.Cells = append(c.Cells, api.Cell{Code: forever})
	}
	for n, ends := range pairs {
		c.Chans = append(c.Chans, api.Chan{Kind: api.Queue + n%2, From: ends[0], To: ends[1]})
	}
	return c
}

// idle has the same channels, and code that uses none of them.
func idle(c api.Config) api.Config {
	c = copyOf(c)
	for n := range c.Cells {
		c.Cells[n].Code = forever
	}
	return c
}

// swapped has a sample for each queue, and a queue for each sample.
func swapped(c api.Config) api.Config {
	c = copyOf(c)
	for n := range c.Chans {
		c.Chans[n].Kind = api.Queue + api.Sample - c.Chans[n].Kind
	}
	return c
}

// turnedRound has the channels in the opposite order.
func turnedRound(c api.Config) api.Config {
	c = copyOf(c)
	slices.Reverse(c.Chans)
	return c
}

func aboveIs(t *testing.T, what string, k *Kernel, want ...[]int) {
	t.Helper()
	for cell, cells := range want {
		if got, e := k.Above(cell); e != api.OK || !slices.Equal(got, cells) {
			t.Errorf("%s: Above(%d) answers %v and %d, want %v", what, cell, got, e, cells)
		}
	}
}

// wantedAbove is P9's first sentence, written down a second time: which cells a way of channels leads from, however long.
func wantedAbove(c api.Config, cell int) []int {
	var leads [api.MaxCells][api.MaxCells]bool
	for n := range leads {
		leads[n][n] = true
	}
	for _, h := range c.Chans {
		leads[h.From][h.To] = true
	}
	for over := range leads {
		for from := range leads {
			for to := range leads {
				leads[from][to] = leads[from][to] || leads[from][over] && leads[over][to]
			}
		}
	}
	var above []int
	for from := range c.Cells {
		if leads[from][cell] {
			above = append(above, from)
		}
	}
	return above
}

// TestP9Above has channels of all shapes, and what is above each of the cells.
func TestP9Above(t *testing.T) {
	all := []int{0, 1, 2, 3, 4, 5}
	for _, x := range []struct {
		what string
		c    api.Config
		want [][]int
	}{
		{"one cell", linked(1), [][]int{{0}}},
		{"no channel", linked(6), [][]int{{0}, {1}, {2}, {3}, {4}, {5}}},
		{"one channel", linked(3, [2]int{0, 1}), [][]int{{0}, {0, 1}, {2}}},
		{"one channel back", linked(3, [2]int{1, 0}), [][]int{{0, 1}, {1}, {2}}},
		{"example 4", linked(3, [2]int{0, 1}, [2]int{1, 2}), [][]int{{0}, {0, 1}, {0, 1, 2}}},
		{"a chain upwards", linked(6, [2]int{0, 1}, [2]int{1, 2}, [2]int{2, 3}, [2]int{3, 4}, [2]int{4, 5}), [][]int{all[:1], all[:2], all[:3], all[:4], all[:5], all}},
		{"a chain downwards", linked(6, [2]int{5, 4}, [2]int{4, 3}, [2]int{3, 2}, [2]int{2, 1}, [2]int{1, 0}), [][]int{all, all[1:], all[2:], all[3:], all[4:], all[5:]}},
		{"a chain up and down", linked(6, [2]int{3, 0}, [2]int{0, 5}, [2]int{5, 1}, [2]int{1, 4}), [][]int{{0, 3}, {0, 1, 3, 5}, {2}, {3}, {0, 1, 3, 4, 5}, {0, 3, 5}}},
		{"there and back", linked(3, [2]int{0, 2}, [2]int{2, 0}), [][]int{{0, 2}, {1}, {0, 2}}},
		{"a ring", linked(6, [2]int{0, 1}, [2]int{1, 2}, [2]int{2, 3}, [2]int{3, 4}, [2]int{4, 5}, [2]int{5, 0}), slices.Repeat([][]int{all}, 6)},
		{"a ring with one ahead and one behind", linked(5, [2]int{4, 1}, [2]int{1, 2}, [2]int{2, 3}, [2]int{3, 1}, [2]int{2, 0}), [][]int{{0, 1, 2, 3, 4}, {1, 2, 3, 4}, {1, 2, 3, 4}, {1, 2, 3, 4}, {4}}},
		{"two rings", linked(5, [2]int{0, 3}, [2]int{3, 0}, [2]int{1, 4}, [2]int{4, 1}), [][]int{{0, 3}, {1, 4}, {2}, {0, 3}, {1, 4}}},
		{"many to one", linked(6, [2]int{5, 2}, [2]int{0, 2}, [2]int{4, 2}, [2]int{1, 2}, [2]int{3, 2}), [][]int{{0}, {1}, all, {3}, {4}, {5}}},
		{"one to many", linked(6, [2]int{2, 0}, [2]int{2, 1}, [2]int{2, 3}, [2]int{2, 4}, [2]int{2, 5}), [][]int{{0, 2}, {1, 2}, {2}, {2, 3}, {2, 4}, {2, 5}}},
		{"two ways to one", linked(4, [2]int{3, 1}, [2]int{3, 2}, [2]int{1, 0}, [2]int{2, 0}), [][]int{{0, 1, 2, 3}, {1, 3}, {2, 3}, {3}}},
		{"the same ends again and again", linked(3, slices.Repeat([][2]int{{2, 1}}, 8)...), [][]int{{0}, {1, 2}, {2}}},
		{"all channels", fullest(), slices.Repeat([][]int{all}, 6)},
		{"both kinds", trio(), [][]int{{0, 1}, {0, 1}, {2}}},
	} {
		aboveIs(t, x.what, made(t, x.c), x.want...)
		aboveIs(t, x.what+", kinds swapped", made(t, swapped(idle(x.c))), x.want...)
		aboveIs(t, x.what+", turned round", made(t, turnedRound(idle(x.c))), x.want...)
	}
}

// TestP9NotByUse: a channel counts, whether or not the code has anything to do with it, and devices and windows do not.
func TestP9NotByUse(t *testing.T) {
	c := couple(again(posts(api.Send, 0, 5)...), again(asking(api.Take, 0)...))
	aboveIs(t, "a queue is used", made(t, c), []int{0, 1}, []int{0, 1})
	c.Chans = c.Chans[:2]
	aboveIs(t, "one way", made(t, c), []int{0}, []int{0, 1})
	c.Cells[0].Code, c.Cells[1].Code = forever, forever
	c.Devs = []int{0, 1, 0, 1}
	c.Table = [][]api.Window{windows(1, 0, 1), nil}
	aboveIs(t, "nothing is used", made(t, c), []int{0}, []int{0, 1})
	c.Chans = nil
	aboveIs(t, "no channel", made(t, c), []int{0}, []int{1})
}

// TestP9Frames: what is above a cell stays so, whatever has come, broken and stopped meanwhile.
func TestP9Frames(t *testing.T) {
	c := mesh([]api.Ins{on(api.Div, 0, 0)}, again(posts(api.Send, 4, 5, 6, 7, 8, 9)...), again(asking(api.Read, 5)...))
	c.Cells[0].Limit = 2
	k := made(t, c)
	for frame := range 8 {
		aboveIs(t, fmt.Sprintf("ahead of frame %d", frame), k, []int{0}, []int{0, 1, 2}, []int{0, 1, 2})
		run(t, k, 1)
	}
	statsAre(t, "stopped meanwhile", k, 0, api.Stats{Steps: 3, Broken: 3, Stopped: true})
}

// TestP9AboveMany holds Above against its second writing, for many channels in all mixtures.
func TestP9AboveMany(t *testing.T) {
	r := rand.New(rand.NewSource(31))
	sizes := map[int]int{}
	for n := range 20000 {
		cells := 1 + r.Intn(api.MaxCells)
		var pairs [][2]int
		for range r.Intn(api.MaxChans + 1) {
			if from, to := r.Intn(cells), r.Intn(cells); from != to {
				pairs = append(pairs, [2]int{from, to})
			}
		}
		c := linked(cells, pairs...)
		var want [][]int
		for cell := range cells {
			want = append(want, wantedAbove(c, cell))
			sizes[len(want[cell])]++
		}
		aboveIs(t, fmt.Sprintf("config %d: %v", n, c.Chans), made(t, c), want...)
	}
	for size := range api.MaxCells {
		if sizes[size+1] < 100 {
			t.Errorf("only %d times there were %d cells above one", sizes[size+1], size+1)
		}
	}
}

func TestP9NoSuchCell(t *testing.T) {
	for cells, c := range map[int]api.Config{1: least(), 2: twins(), 3: trio(), 6: fullest()} {
		k := made(t, c)
		for range 2 {
			for _, n := range append([]int64{-1, int64(cells), int64(cells) + 1}, extremes...) {
				if l, e := k.Above(int(n)); len(l) != 0 || e != api.ErrNone {
					t.Errorf("Above(%d) of %d cells answers %v and %d", n, cells, l, e)
				}
			}
			for cell := range cells {
				if l, e := k.Above(cell); e != api.OK || !slices.Equal(l, wantedAbove(c, cell)) {
					t.Errorf("Above(%d) of %d cells answers %v and %d", cell, cells, l, e)
				}
			}
			run(t, k, 1)
		}
	}
}
