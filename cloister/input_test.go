package cloister

import (
	"fmt"
	"slices"
	"testing"

	"cloister/api"
)

// readers is two cells that say what their devices say: 0 those of the numbers 0 and 2, 1 that of the number 1.
func readers() api.Config {
	return api.Config{
		Cells: []api.Cell{
			{Code: again(slices.Concat(asking(api.Input, 0), asking(api.Input, 2))...)},
			{Code: again(asking(api.Input, 1)...)},
		},
		Table: [][]api.Window{windows(0, 1)},
		Devs:  []int{0, 1, 0},
	}
}

// TestP4Inputs has lists of inputs, and what the devices 0, 2 and 1 say by them.
func TestP4Inputs(t *testing.T) {
	none := []int64{0, 0, 0, 0, 0, 0}
	for _, x := range []struct {
		what string
		in   []api.In
		want []int64
	}{
		{"nil", nil, none},
		{"none", []api.In{}, none},
		{"the first", []api.In{{Dev: 0, N: 5}}, []int64{5, 1, 0, 0, 0, 0}},
		{"the second", []api.In{{Dev: 1, N: 5}}, []int64{0, 0, 0, 0, 5, 1}},
		{"the last", []api.In{{Dev: 2, N: 5}}, []int64{0, 0, 5, 1, 0, 0}},
		{"a 0", []api.In{{Dev: 2, N: 0}}, []int64{0, 0, 0, 1, 0, 0}},
		{"all", []api.In{{Dev: 0, N: 5}, {Dev: 1, N: 6}, {Dev: 2, N: 7}}, []int64{5, 1, 7, 1, 6, 1}},
		{"all, in another order", []api.In{{Dev: 2, N: 7}, {Dev: 0, N: 5}, {Dev: 1, N: 6}}, []int64{5, 1, 7, 1, 6, 1}},
		{"behind the last", []api.In{{Dev: 3, N: 5}}, none},
		{"ahead of the first", []api.In{{Dev: -1, N: 5}}, none},
		{"four that there are not", []api.In{{Dev: 3, N: 5}, {Dev: 4, N: 5}, {Dev: -1, N: 5}, {Dev: lowest, N: 5}}, none},
		{"among such that there are not", []api.In{{Dev: 3, N: 9}, {Dev: 0, N: 5}, {Dev: -2, N: 9}, {Dev: 1, N: 6}}, []int64{5, 1, 0, 0, 6, 1}},
		{"one twice", []api.In{{Dev: 0, N: 5}, {Dev: 0, N: 6}}, []int64{5, 1, 0, 0, 0, 0}},
		{"one twice, at first 0", []api.In{{Dev: 0, N: 0}, {Dev: 0, N: 6}}, []int64{0, 1, 0, 0, 0, 0}},
		{"one twice, with others between", []api.In{{Dev: 1, N: 5}, {Dev: 2, N: 6}, {Dev: 9, N: 7}, {Dev: 1, N: 8}}, []int64{0, 0, 6, 1, 5, 1}},
		{"two twice", []api.In{{Dev: 1, N: 5}, {Dev: 2, N: 6}, {Dev: 2, N: 7}, {Dev: 1, N: 8}}, []int64{0, 0, 6, 1, 5, 1}},
		{"one four times", []api.In{{Dev: 2, N: 4}, {Dev: 2, N: 3}, {Dev: 2, N: 2}, {Dev: 2, N: 1}}, []int64{0, 0, 4, 1, 0, 0}},
	} {
		k := made(t, readers())
		for range 3 {
			says(t, x.what, k, 0, x.want[:4], x.in...)
			says(t, x.what, k, 1, x.want[4:], x.in...)
			says(t, x.what+", and then none", k, 0, none[:4])
			says(t, x.what+", and then none", k, 1, none[4:])
		}
	}
}

// TestP4NoSuchDevice has numbers of devices that are like those that there are, if they are cut.
func TestP4NoSuchDevice(t *testing.T) {
	for _, dev := range append([]int64{3, 4, 8, 256, 1 << 16}, extremes...) {
		k := made(t, readers())
		in := []api.In{{Dev: int(dev), N: 9}, {Dev: int(dev) + 1, N: 9}, {Dev: 1, N: 4}}
		says(t, fmt.Sprintf("device %d", dev), k, 0, inputsOf(in, 0, 2), in...)
		says(t, fmt.Sprintf("device %d", dev), k, 1, inputsOf(in, 1), in...)
	}
}

// inputsOf tells what devices say by a list, with the first input last laid over the others.
func inputsOf(in []api.In, devs ...int) []int64 {
	var out []int64
	for _, dev := range devs {
		pair := []int64{0, 0}
		for n := len(in) - 1; n >= 0; n-- {
			if in[n].Dev == dev {
				pair = []int64{in[n].N, 1}
			}
		}
		out = append(out, pair...)
	}
	return out
}

// TestP4InputAllFrame: an input is there in every window of its frame, however often it was asked for, and in no other frame.
func TestP4InputAllFrame(t *testing.T) {
	c := readers()
	c.Table = [][]api.Window{windows(1, 0, 1, 1), windows(0), windows(1)}
	k := made(t, c)
	in := api.In{Dev: 1, N: 6}
	for range 3 {
		says(t, "three windows", k, 1, []int64{6, 1, 6, 1, 6, 1}, in)
		says(t, "no window", k, 1, nil, in)
		says(t, "the next frame", k, 1, []int64{0, 0})
	}
	c.Cells[1].Code = again(slices.Concat(asking(api.Input, 1), asking(api.Input, 1))...)
	c.Table = [][]api.Window{windows(1)}
	says(t, "asked twice", made(t, c), 1, []int64{6, 1, 6, 1}, in)
}

// TestP4InputsRefused: inputs that are too many say nothing, neither then nor later.
func TestP4InputsRefused(t *testing.T) {
	k := made(t, readers())
	for _, size := range []int{5, 6, 100} {
		if e := k.Frame(slices.Repeat([]api.In{{Dev: 1, N: 6}}, size)); e != api.ErrMany {
			t.Errorf("%d inputs: Frame answers %d", size, e)
		}
		traceIs(t, "refused", k, 0)
		traceIs(t, "refused", k, 1)
	}
	says(t, "after refused inputs", k, 1, []int64{0, 0})
	says(t, "four inputs", k, 1, []int64{6, 1}, slices.Repeat([]api.In{{Dev: 1, N: 6}}, 4)...)
}

// TestP4NoDevice: without devices no input says anything.
func TestP4NoDevice(t *testing.T) {
	k := made(t, alone(0, []int{3}, again(say(0))...))
	says(t, "no device", k, 0, []int64{0}, slices.Repeat([]api.In{{Dev: 0, N: 6}}, 4)...)
}
