package cloister

import (
	"fmt"
	"slices"
	"testing"

	"cloister/api"
)

// TestP6NotAheadOfEnd has windows of both cells in every order: nothing is seen in the frame in which it was sent and written.
func TestP6NotAheadOfEnd(t *testing.T) {
	hear := slices.Concat(asking(api.Take, 0), asking(api.Read, 1))
	first := byWindow(slices.Concat(posts(api.Send, 0, 7), posts(api.Write, 1, 8)))
	nothing, all, old := []int64{0, 0, 0, -1}, []int64{7, 1, 8, 0}, []int64{0, 0, 8, 0}
	for _, row := range [][]int{{0, 1}, {1, 0}, {0, 1, 1}, {1, 0, 1}, {0, 1, 0, 1}, {1, 1, 0, 0, 1, 1}} {
		c := couple(first, again(hear...))
		c.Table = [][]api.Window{windows(row...)}
		k := made(t, c)
		var one, two []int64
		for _, cell := range row {
			if cell == 1 && len(two) == 0 {
				one, two = append(one, nothing...), append(two, all...)
			} else if cell == 1 {
				one, two = append(one, nothing...), append(two, old...)
			}
		}
		saysEach(t, fmt.Sprintf("windows of %v", row), k, 1, one, two)
	}
}

// TestP6Room has each number of messages that wait, are taken meanwhile and are sent, with the taker ahead of the sender and behind it.
func TestP6Room(t *testing.T) {
	for _, row := range [][]int{{0, 1}, {1, 0}} {
		for wait := range 5 {
			for taken := range wait + 1 {
				for sent := range 8 {
					tryRoom(t, row, wait, taken, sent)
				}
			}
		}
	}
}

func tryRoom(t *testing.T, row []int, wait, taken, sent int) {
	t.Helper()
	var old, anew []int64
	for n := range wait {
		old = append(old, 100+int64(n))
	}
	for n := range sent {
		anew = append(anew, 200+int64(n))
	}
	take := []api.Ins{use(api.Take, 0, 1, 0)}
	last := append(slices.Repeat(asking(api.Take, 0), 5), use(api.Lost, 2, 2, 0), say(2))
	c := couple(byWindow(posts(api.Send, 0, old...), posts(api.Send, 0, anew...)), byWindow(nil, slices.Repeat(take, taken), last))
	c.Table = [][]api.Window{windows(row...)}
	there := slices.Concat(old[taken:], anew)
	lost := max(len(there)-4, 0)
	var want []int64
	for _, n := range there[:len(there)-lost] {
		want = append(want, n, 1)
	}
	want = append(append(want, make([]int64, 10-len(want))...), int64(lost))
	saysEach(t, fmt.Sprintf("%d wait, %d taken, %d sent, windows of %v", wait, taken, sent, row), made(t, c), 1, nil, nil, want)
}

// TestP6InTheirOrder sends over several windows of a frame, and over frames.
func TestP6InTheirOrder(t *testing.T) {
	first := byWindow(posts(api.Send, 0, 1, 2), posts(api.Send, 0, 3), posts(api.Send, 0, 4), posts(api.Send, 0, 5, 6), posts(api.Send, 0, 7))
	second := again(slices.Concat(asking(api.Take, 0), asking(api.Take, 0))...)
	c := couple(first, second)
	c.Table = [][]api.Window{windows(0, 1, 0)}
	saysEach(t, "three windows", made(t, c), 1, []int64{0, 0, 0, 0}, []int64{1, 1, 2, 1}, []int64{3, 1, 4, 1}, []int64{5, 1, 6, 1}, []int64{7, 1, 0, 0})
	c.Table = [][]api.Window{windows(0, 0, 0), windows(1, 1), windows(0, 0)}
	saysEach(t, "three rows", made(t, c), 1, nil, []int64{1, 1, 2, 1, 3, 1, 4, 1}, nil, nil, []int64{5, 1, 6, 1, 7, 1, 0, 0}, nil)
}

// TestP6FullFrame sends as often as a frame has steps for.
func TestP6FullFrame(t *testing.T) {
	c := couple([]api.Ins{set(1, 1), on(api.Add, 0, 1), use(api.Send, 0, 0, 0), jump(1)}, again(append(slices.Repeat(asking(api.Take, 0), 5), use(api.Lost, 0, 0, 0), say(0))...))
	c.Table = [][]api.Window{{{Cell: 0, Budget: 199}}, {{Cell: 1, Budget: 200}}}
	k := made(t, c)
	saysEach(t, "66 messages", k, 1, nil, []int64{1, 1, 2, 1, 3, 1, 4, 1, 0, 0, 62})
	saysEach(t, "66 more", k, 1, nil, []int64{67, 1, 68, 1, 69, 1, 70, 1, 0, 0, 62})
}

// mesh is three cells and all 8 channels: two queues and two samples from 0 to 1, a queue and a sample from 1 to 2 and from 2 to 1.
func mesh(codes ...[]api.Ins) api.Config {
	c := api.Config{Table: [][]api.Window{windows(0, 1, 2)}}
	for _, code := range codes {
		c.Cells = append(c.Cells, api.Cell{Code: code, Limit: 5})
	}
	for _, ends := range [][2]int{{0, 1}, {0, 1}, {1, 2}, {2, 1}} {
		c.Chans = append(c.Chans, api.Chan{Kind: api.Queue, From: ends[0], To: ends[1]}, api.Chan{Kind: api.Sample, From: ends[0], To: ends[1]})
	}
	return c
}

// TestP6ChannelsApart: each channel has its own messages, its own number, its own age and its own losses.
func TestP6ChannelsApart(t *testing.T) {
	hear := func(queue int64) []api.Ins {
		return append(slices.Concat(asking(api.Take, queue), asking(api.Read, queue+1)), use(api.Lost, 0, 0, queue), say(0))
	}
	c := mesh(
		byWindow(slices.Concat(posts(api.Send, 2, 20, 21, 22, 23, 24, 25), posts(api.Write, 1, 10)), slices.Concat(posts(api.Send, 0, 11), posts(api.Write, 3, 30))),
		again(slices.Concat(hear(0), hear(2), hear(6))...),
		byWindow(nil, posts(api.Send, 6, 61, 62, 63, 64, 65), posts(api.Write, 7, 70)),
	)
	saysEach(t, "apart", made(t, c), 1,
		[]int64{0, 0, 0, -1, 0, 0, 0, 0, -1, 0, 0, 0, 0, -1, 0},
		[]int64{0, 0, 10, 0, 0, 20, 1, 0, -1, 2, 0, 0, 0, -1, 0},
		[]int64{11, 1, 10, 1, 0, 21, 1, 30, 0, 0, 61, 1, 0, -1, 1},
		[]int64{0, 0, 10, 2, 0, 22, 1, 30, 1, 0, 62, 1, 70, 0, 0},
		[]int64{0, 0, 10, 3, 0, 23, 1, 30, 2, 0, 63, 1, 70, 1, 0})
}

// TestP6ThereAndBack: a number goes through both cells and comes back, at one frame a way.
func TestP6ThereAndBack(t *testing.T) {
	pass := again(use(api.Take, 0, 1, 0), use(api.Send, 0, 0, 2), use(api.Read, 0, 1, 1), use(api.Write, 0, 0, 3))
	first := byWindow(slices.Concat(posts(api.Send, 0, 5), posts(api.Write, 1, 6)), nil, slices.Concat(asking(api.Take, 2), asking(api.Take, 2), asking(api.Read, 3)))
	for _, row := range [][]int{{0, 1}, {1, 0}} {
		c := couple(first, pass)
		c.Table = [][]api.Window{windows(row...)}
		saysEach(t, fmt.Sprintf("windows of %v", row), made(t, c), 0, nil, nil, []int64{0, 1, 5, 1, 6, 0})
	}
}

// TestP6LastWritten: of several numbers written in a frame the last one shows, be it of a later window.
func TestP6LastWritten(t *testing.T) {
	first := byWindow(posts(api.Write, 1, 1, 2, 3), posts(api.Write, 1, 9, 4), nil, posts(api.Write, 1, 5), posts(api.Write, 1, 6), nil)
	c := couple(first, again(asking(api.Read, 1)...))
	c.Table = [][]api.Window{windows(0, 1, 0)}
	saysEach(t, "two windows a frame", made(t, c), 1, []int64{0, -1}, []int64{4, 0}, []int64{5, 0}, []int64{6, 0}, []int64{6, 1})
}

// TestP6RowsWithout: a frame ends in rows without windows too, and in those of other cells.
func TestP6RowsWithout(t *testing.T) {
	c := couple(byWindow(slices.Concat(posts(api.Send, 0, 5), posts(api.Write, 1, 6))), again(slices.Concat(asking(api.Take, 0), asking(api.Read, 1))...))
	c.Table = [][]api.Window{windows(0), nil, {}, windows(1)}
	k := made(t, c)
	run(t, k, 3)
	saysEach(t, "rows without windows", k, 1, []int64{5, 1, 6, 2}, nil, nil, nil, []int64{0, 0, 6, 6})
	c.Table = [][]api.Window{windows(0), windows(0, 0), windows(1), nil}
	k = made(t, c)
	run(t, k, 2)
	saysEach(t, "rows of the other one", k, 1, []int64{5, 1, 6, 1}, nil, nil, nil, []int64{0, 0, 6, 5})
}

// TestP6Refused: a frame that is refused ends nothing.
func TestP6Refused(t *testing.T) {
	first := byWindow(slices.Concat(posts(api.Send, 0, 1, 2, 3, 4, 5), posts(api.Write, 1, 6)))
	k := made(t, couple(first, again(slices.Concat(asking(api.Take, 0), asking(api.Read, 1), []api.Ins{use(api.Lost, 0, 0, 0), say(0)})...)))
	for frame, want := range [][]int64{{0, 0, 0, -1, 0}, {1, 1, 6, 0, 1}, {2, 1, 6, 1, 0}, {3, 1, 6, 2, 0}, {4, 1, 6, 3, 0}, {0, 0, 6, 4, 0}} {
		for range frame {
			if e := k.Frame(make([]api.In, 5)); e != api.ErrMany {
				t.Errorf("five inputs: Frame answers %d", e)
			}
		}
		says(t, fmt.Sprintf("frame %d", frame), k, 1, want)
	}
}
