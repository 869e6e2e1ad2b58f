package cloister

import (
	"fmt"
	"slices"
	"testing"

	"cloister/api"
)

// breaks has code for each reason to break; nothing may follow it.
func breaks() map[int64][]api.Ins {
	return map[int64][]api.Ins{
		api.ByDiv:    {set(3, 0), on(api.Div, 0, 3)},
		api.ByMemory: {set(3, 16), on(api.Store, 0, 3)},
		api.ByEnd:    nil,
	}
}

// hearing says what the queue 0 has first and what the sample 1 shows.
func hearing() []api.Ins {
	return slices.Concat(asking(api.Take, 0), asking(api.Read, 1))
}

// telling sends and writes a number.
func telling(n int64) []api.Ins {
	return slices.Concat(posts(api.Send, 0, n), posts(api.Write, 1, n))
}

var silence = []int64{0, 0, 0, -1}

// TestP7Forgotten: what a cell has sent and written in the frame in which it breaks does not come, for whatever reason.
func TestP7Forgotten(t *testing.T) {
	for why, last := range breaks() {
		k := made(t, couple(slices.Concat(telling(5), telling(6), last), again(hearing()...)))
		for frame := range 9 {
			says(t, fmt.Sprintf("by %d, frame %d", why, frame), k, 1, silence)
		}
		statsAre(t, fmt.Sprintf("by %d", why), k, 0, api.Stats{Steps: 6 * (8 + max(len(last), 1)), Broken: 6, Stopped: true})
	}
}

// TestP7AllWindows: it is forgotten in all windows of the frame that came ahead of the break, and in no earlier frame.
func TestP7AllWindows(t *testing.T) {
	for why, last := range breaks() {
		pieces := []api.Ins{}
		for n := range int64(3) {
			pieces = slices.Concat(pieces, telling(5+n), []api.Ins{op(api.Yield)})
		}
		c := couple(append(pieces, last...), again(hearing()...))
		for _, x := range []struct {
			rows [][]api.Window
			want [][]int64
		}{
			{[][]api.Window{windows(0, 0, 0, 0), windows(1)}, [][]int64{nil, silence, nil, silence}},
			{[][]api.Window{windows(0, 1, 0, 1, 0, 0)}, [][]int64{slices.Repeat(silence, 2), slices.Repeat(silence, 2)}},
			{[][]api.Window{windows(0), windows(0, 0, 0), windows(1)}, [][]int64{nil, nil, {5, 1, 5, 1}, nil, nil, {5, 1, 5, 1}}},
			{[][]api.Window{windows(0, 0), windows(0, 0), windows(1, 1, 1)}, [][]int64{nil, nil, {5, 1, 6, 1, 6, 1, 6, 1, 0, 0, 6, 1}}},
			{[][]api.Window{windows(0, 0, 0), windows(1, 0, 1), windows(1)}, [][]int64{nil, {5, 1, 7, 0, 6, 1, 7, 0}, {7, 1, 7, 1}}},
		} {
			c.Table = x.rows
			saysEach(t, fmt.Sprintf("by %d, rows %v", why, x.rows), made(t, c), 1, x.want...)
		}
	}
}

// TestP7BehindBreak: what a cell that was made anew sends and writes in the same frame does come. It breaks only where a message waits for it.
func TestP7BehindBreak(t *testing.T) {
	first := slices.Concat([]api.Ins{use(api.Take, 0, 1, 2), zero(1, 8)}, telling(5), []api.Ins{set(2, 0), on(api.Div, 0, 2)}, telling(6), []api.Ins{op(api.Yield), jump(0)})
	second := slices.Concat(posts(api.Send, 2, 1), []api.Ins{op(api.Yield)}, again(append(hearing(), asking(api.Take, 0)...)...))
	second[len(second)-1] = jump(3)
	c := couple(first, second)
	c.Table = [][]api.Window{windows(1), windows(0, 0), windows(1)}
	k := made(t, c)
	saysEach(t, "made anew", k, 1, nil, nil, []int64{6, 1, 6, 0, 0, 0}, []int64{0, 0, 6, 1, 0, 0}, nil, []int64{6, 1, 6, 0, 6, 1})
	statsAre(t, "made anew", k, 0, api.Stats{Steps: 8 + 7 + 8 + 8, Broken: 1})
	c.Cells[0].Limit = 0
	k = made(t, c)
	saysEach(t, "stopped", k, 1, nil, nil, []int64{0, 0, 0, -1, 0, 0})
}

// TestP7WaitsAndShows: what came at an earlier frame's end stays, and ages as ever.
func TestP7WaitsAndShows(t *testing.T) {
	for why, last := range breaks() {
		first := slices.Concat(telling(5), telling(6), []api.Ins{op(api.Yield)}, telling(7), last)
		c := couple(first, again(hearing()...))
		c.Cells[0].Limit = 0
		c.Table = append(c.Table, c.Table[0], windows(1))
		k := made(t, c)
		saysEach(t, fmt.Sprintf("by %d", why), k, 1, silence, []int64{5, 1, 6, 0}, []int64{6, 1, 6, 1}, []int64{0, 0, 6, 2}, []int64{0, 0, 6, 3}, []int64{0, 0, 6, 4})
	}
}

// TestP7Taken: what a cell took out stays out, and what it asked was asked, though it breaks behind that; the rest stays.
func TestP7Taken(t *testing.T) {
	for why, last := range breaks() {
		second := slices.Concat(asking(api.Take, 0), asking(api.Take, 0), []api.Ins{use(api.Lost, 0, 0, 0), say(0)}, asking(api.Read, 1), last)
		first := byWindow(slices.Concat(posts(api.Send, 0, 1, 2, 3, 4, 5, 6), posts(api.Write, 1, 9)))
		k := made(t, couple(first, second))
		saysEach(t, fmt.Sprintf("by %d", why), k, 1,
			[]int64{0, 0, 0, 0, 0, 0, -1}, []int64{1, 1, 2, 1, 2, 9, 0}, []int64{3, 1, 4, 1, 0, 9, 1}, []int64{0, 0, 0, 0, 0, 9, 2})
	}
}

// TestP7Lost: what is forgotten is not lost, and what was lost stays counted.
func TestP7Lost(t *testing.T) {
	for why, last := range breaks() {
		first := slices.Concat(posts(api.Send, 0, 1, 2, 3, 4, 5, 6), []api.Ins{op(api.Yield)}, posts(api.Send, 0, 7, 8, 9), last)
		lost := []api.Ins{use(api.Lost, 0, 0, 0), say(0)}
		k := made(t, couple(first, byWindow(lost, nil, lost, lost, lost)))
		saysEach(t, fmt.Sprintf("by %d", why), k, 1, []int64{0}, nil, []int64{2}, []int64{6}, []int64{0})
	}
}

// TestP7OthersPosts: what others send and write in the frame of a break comes, be it ahead of the break or behind it, to the broken cell too.
func TestP7OthersPosts(t *testing.T) {
	for why, last := range breaks() {
		hear := slices.Concat(asking(api.Take, 4), asking(api.Read, 5))
		teller := again(slices.Concat(posts(api.Send, 4, 14), posts(api.Write, 5, 15), asking(api.Take, 6), asking(api.Take, 0))...)
		broken := slices.Concat(hear, posts(api.Send, 6, 16), posts(api.Write, 7, 17), last)
		for _, row := range [][]int{{1, 2}, {2, 1}, {0, 1, 2, 0}, {2, 0, 1}} {
			c := mesh(again(posts(api.Send, 0, 10)...), teller, broken)
			c.Table = [][]api.Window{windows(row...)}
			k := made(t, c)
			from0 := int64(0)
			if slices.Contains(row, 0) {
				from0 = 10
			}
			what := fmt.Sprintf("by %d, windows of %v", why, row)
			run(t, k, 1)
			for range 4 {
				says(t, what, k, 1, []int64{0, 0, from0, from0 / 10})
			}
			if got := saidBy(t, k, 2); !slices.Equal(got, append([]int64{0, 0, 0, -1}, slices.Repeat([]int64{14, 1, 15, 0}, 4)...)) {
				t.Errorf("%s: the broken one says %v", what, got)
			}
		}
	}
}

// TestP7Stopped: messages for a stopped cell wait and are lost as ever; what it sent earlier can still be taken.
func TestP7Stopped(t *testing.T) {
	first := slices.Concat(posts(api.Send, 0, 1, 2, 3), posts(api.Write, 1, 9), []api.Ins{op(api.Yield), on(api.Div, 0, 1)})
	second := again(slices.Concat(posts(api.Send, 2, 5, 6), hearing())...)
	c := couple(first, second)
	c.Cells[0].Limit = 0
	k := made(t, c)
	saysEach(t, "from a stopped one", k, 1, silence, []int64{1, 1, 9, 0}, []int64{2, 1, 9, 1}, []int64{3, 1, 9, 2}, []int64{0, 0, 9, 3}, []int64{0, 0, 9, 4})
	statsAre(t, "the stopped one", k, 0, api.Stats{Steps: 10, Broken: 1, Stopped: true})
	statsAre(t, "the other one", k, 1, api.Stats{Steps: 6*12 - 1})
}

// TestP7OthersAsWithout: beside a cell that breaks again and again the others are as beside one that does nothing.
func TestP7OthersAsWithout(t *testing.T) {
	one := again(slices.Concat(posts(api.Send, 4, 14, 15), asking(api.Take, 6), asking(api.Read, 7), asking(api.Take, 0))...)
	two := again(slices.Concat(asking(api.Take, 4), posts(api.Send, 6, 16), posts(api.Write, 7, 17))...)
	for _, row := range [][]int{{0, 1, 2}, {1, 0, 2}, {1, 2, 0}, {2, 0, 1, 0}} {
		quiet := mesh(forever, one, two)
		quiet.Table = [][]api.Window{windows(row...)}
		without := ran(t, quiet, 12)
		for why, last := range breaks() {
			c := mesh(slices.Concat(posts(api.Send, 0, 1), posts(api.Write, 1, 2), last), one, two)
			c.Table = quiet.Table
			k := ran(t, c, 12)
			for cell := 1; cell < 3; cell++ {
				want, _ := without.Trace(cell)
				traceIs(t, fmt.Sprintf("beside one that breaks by %d, windows of %v", why, row), k, cell, want...)
			}
		}
	}
}
