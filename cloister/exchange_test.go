package cloister

import (
	"fmt"
	"slices"
	"testing"

	"cloister/api"
)

// TestWordsAsk has each instruction that brings something to a cell, at each pair of registers, with what r and a become frame by frame.
func TestWordsAsk(t *testing.T) {
	device := api.In{Dev: 1, N: 7}
	for _, x := range []struct {
		what  string
		first []api.Ins
		op    int
		n     int64
		want  [][]int64 // r and a; where a is not named, it stays
	}{
		{"Take", byWindow(posts(api.Send, 0, 7, 8)), api.Take, 0, [][]int64{{0, 0}, {7, 1}, {8, 1}, {0, 0}}},
		{"Take of 0", byWindow(posts(api.Send, 0, 0, -1)), api.Take, 0, [][]int64{{0, 0}, {0, 1}, {-1, 1}, {0, 0}}},
		{"Read", byWindow(posts(api.Write, 1, 7)), api.Read, 1, [][]int64{{0, -1}, {7, 0}, {7, 1}, {7, 2}}},
		{"Read of 0", byWindow(nil, posts(api.Write, 1, 0)), api.Read, 1, [][]int64{{0, -1}, {0, -1}, {0, 0}, {0, 1}}},
		{"Input", forever, api.Input, 1, [][]int64{{0, 0}, {7, 1}, {0, 0}, {0, 0}}},
		{"Lost", byWindow(posts(api.Send, 0, 1, 2, 3, 4, 5, 6), nil, posts(api.Send, 0, 7)), api.Lost, 0, [][]int64{{0}, {2}, {0}, {1}, {0}}},
	} {
		for r := range api.Regs {
			for a := range api.Regs {
				k := made(t, couple(x.first, again(set(0, 50), set(1, 51), set(2, 52), set(3, 53), use(x.op, r, a, x.n), say(0), say(1), say(2), say(3))))
				for frame, pair := range x.want {
					want := []int64{50, 51, 52, 53}
					want[r] = pair[0]
					if len(pair) > 1 {
						want[a] = pair[1]
					}
					var in []api.In
					if frame == 1 {
						in = append(in, device)
					}
					says(t, fmt.Sprintf("%s %d %d, frame %d", x.what, r, a, frame), k, 1, want, in...)
				}
			}
		}
	}
}

// TestWordsPost: Send and Write take r, whatever a is, and change no register.
func TestWordsPost(t *testing.T) {
	for r := range api.Regs {
		for a := range api.Regs {
			code := []api.Ins{set(0, 50), set(1, 51), set(2, 52), set(3, 53), use(api.Send, r, a, 0), use(api.Write, r, a, 1), say(0), say(1), say(2), say(3)}
			k := made(t, couple(again(code...), again(slices.Concat(asking(api.Take, 0), asking(api.Read, 1))...)))
			what := fmt.Sprintf("r %d, a %d", r, a)
			says(t, what, k, 0, []int64{50, 51, 52, 53})
			says(t, what, k, 1, []int64{50 + int64(r), 1, 50 + int64(r), 0})
		}
	}
}

// TestWordsAnyNumber: messages, samples and inputs carry all numbers.
func TestWordsAnyNumber(t *testing.T) {
	for _, n := range append([]int64{0, 1, 2}, extremes...) {
		first := again(use(api.Input, 0, 1, 0), use(api.Send, 0, 0, 0), use(api.Write, 0, 0, 1))
		k := made(t, couple(first, again(slices.Concat(asking(api.Take, 0), asking(api.Read, 1))...)))
		runWith(t, k, api.In{Dev: 0, N: n})
		says(t, fmt.Sprint(n), k, 1, []int64{n, 1, n, 0})
	}
}

// TestWordsCounted: each of them is one step, goes to the one behind it, and breaks nothing.
func TestWordsCounted(t *testing.T) {
	for _, i := range []api.Ins{use(api.Send, 0, 1, 0), use(api.Write, 0, 1, 1), use(api.Take, 0, 1, 2), use(api.Lost, 0, 1, 2), use(api.Read, 0, 1, 3), use(api.Input, 0, 1, 0)} {
		c := couple([]api.Ins{i, i, set(2, 9), say(2), op(api.Yield), i}, forever)
		k := ran(t, c, 1)
		want := []api.Event{said(9), closed(5, api.ByYield)}
		traceIs(t, fmt.Sprintf("%d", i.Op), k, 0, want...)
		run(t, k, 1)
		want = append(want, broke(api.ByEnd, 1), closed(2, api.ByBreak))
		traceIs(t, fmt.Sprintf("%d at last", i.Op), k, 0, want...)
		c.Table[0][0].Budget = 2
		k = ran(t, c, 1)
		traceIs(t, fmt.Sprintf("%d with a budget of 2", i.Op), k, 0, closed(2, api.BySteps))
		statsAre(t, fmt.Sprintf("%d with a budget of 2", i.Op), k, 0, api.Stats{Steps: 2})
	}
}

// TestWordsTakeMany takes out more than there is, in one window and one by one.
func TestWordsTakeMany(t *testing.T) {
	three := byWindow(posts(api.Send, 0, 5, 6, 7))
	take := asking(api.Take, 0)
	all := made(t, couple(three, again(slices.Repeat(take, 5)...)))
	saysEach(t, "in one window", all, 1, make([]int64, 10), []int64{5, 1, 6, 1, 7, 1, 0, 0, 0, 0}, make([]int64, 10))
	slowly := made(t, couple(three, again(take...)))
	saysEach(t, "one by one", slowly, 1, []int64{0, 0}, []int64{5, 1}, []int64{6, 1}, []int64{7, 1}, []int64{0, 0}, []int64{0, 0})
}

// TestWordsAge: the same number written anew is new, and what is not written goes on to age.
func TestWordsAge(t *testing.T) {
	write := func(n int64) []api.Ins { return posts(api.Write, 1, n) }
	first := byWindow(nil, write(7), nil, write(7), write(7), nil, nil, write(0), nil, write(8), posts(api.Write, 1, 9, 8), nil)
	k := made(t, couple(first, again(asking(api.Read, 1)...)))
	saysEach(t, "ages", k, 1, []int64{0, -1}, []int64{0, -1}, []int64{7, 0}, []int64{7, 1}, []int64{7, 0}, []int64{7, 0}, []int64{7, 1}, []int64{7, 2},
		[]int64{0, 0}, []int64{0, 1}, []int64{8, 0}, []int64{8, 0}, []int64{8, 1})
	for age := range int64(300) {
		says(t, "for long", k, 1, []int64{8, age + 2})
	}
}

// TestWordsReadOften: a sample is not used up by being read.
func TestWordsReadOften(t *testing.T) {
	k := made(t, couple(byWindow(posts(api.Write, 1, 7)), again(slices.Repeat(asking(api.Read, 1), 3)...)))
	saysEach(t, "three times", k, 1, []int64{0, -1, 0, -1, 0, -1}, []int64{7, 0, 7, 0, 7, 0}, []int64{7, 1, 7, 1, 7, 1})
}

// TestWordsNotRead: what nobody reads ages too.
func TestWordsNotRead(t *testing.T) {
	k := made(t, couple(byWindow(posts(api.Write, 1, 7)), byWindow(nil, nil, nil, asking(api.Read, 1), nil, asking(api.Read, 1))))
	saysEach(t, "read late", k, 1, nil, nil, nil, []int64{7, 2}, nil, []int64{7, 4})
}

// TestWordsLostSinceAsked: it grows from frame to frame until it is asked, and is 0 behind that.
func TestWordsLostSinceAsked(t *testing.T) {
	lost := []api.Ins{use(api.Lost, 2, 3, 0), say(2), use(api.Lost, 2, 3, 0), say(2)}
	first := again(posts(api.Send, 0, 1, 2, 3)...)
	k := made(t, couple(first, byWindow(lost, lost, lost, nil, nil, lost, lost, asking(api.Take, 0), lost)))
	saysEach(t, "lost", k, 1, []int64{0, 0}, []int64{0, 0}, []int64{2, 0}, nil, nil, []int64{9, 0}, []int64{3, 0}, []int64{1, 1}, []int64{5, 0})
	late := made(t, couple(first, byWindow(append(slices.Repeat([][]api.Ins{nil}, 20), lost)...)))
	run(t, late, 20)
	says(t, "asked late", late, 1, []int64{56, 0})
}

// TestExample3 is the document's.
func TestExample3(t *testing.T) {
	c := api.Config{
		Cells: []api.Cell{
			{Code: []api.Ins{set(0, 5), use(api.Send, 0, 0, 0), op(api.Yield), jump(0)}},
			{Code: []api.Ins{use(api.Take, 0, 1, 0), say(0), say(1), op(api.Yield), jump(0)}},
		},
		Table: [][]api.Window{{{Cell: 0, Budget: 10}, {Cell: 1, Budget: 10}}},
		Chans: []api.Chan{{Kind: api.Queue, From: 0, To: 1}},
	}
	k := made(t, c)
	saysEach(t, "the third", k, 1, []int64{0, 0}, []int64{5, 1}, []int64{5, 1})
}
