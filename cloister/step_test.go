package cloister

import (
	"fmt"
	"math"
	"reflect"
	"slices"
	"testing"

	"cloister/api"
)

const (
	lowest  = math.MinInt64
	highest = math.MaxInt64
)

// TestWordsNumbers names sums, differences, products and quotients at the ends of the numbers.
func TestWordsNumbers(t *testing.T) {
	for _, x := range []struct {
		op         int
		r, a, want int64
	}{
		{api.Add, 2, 3, 5}, {api.Add, highest, 1, lowest}, {api.Add, lowest, -1, highest}, {api.Add, lowest, lowest, 0}, {api.Add, highest, highest, -2}, {api.Add, lowest, highest, -1},
		{api.Sub, 2, 3, -1}, {api.Sub, lowest, 1, highest}, {api.Sub, highest, -1, lowest}, {api.Sub, 0, lowest, lowest}, {api.Sub, lowest, lowest, 0}, {api.Sub, -1, lowest, highest},
		{api.Mul, -2, 3, -6}, {api.Mul, highest, 2, -2}, {api.Mul, lowest, 2, 0}, {api.Mul, lowest, -1, lowest}, {api.Mul, highest, highest, 1}, {api.Mul, 1 << 32, 1 << 31, lowest}, {api.Mul, lowest, 3, lowest},
		{api.Div, 7, 2, 3}, {api.Div, -7, 2, -3}, {api.Div, 7, -2, -3}, {api.Div, -7, -2, 3}, {api.Div, 1, 2, 0}, {api.Div, -1, 2, 0}, {api.Div, 0, 5, 0},
		{api.Div, lowest, -1, lowest}, {api.Div, lowest, 1, lowest}, {api.Div, highest, -1, -highest}, {api.Div, lowest, 2, -1 << 62}, {api.Div, lowest, lowest, 1}, {api.Div, highest, lowest, 0}, {api.Div, lowest, highest, -1},
	} {
		tryTwo(t, x.op, x.r, x.a, x.want)
	}
}

// TestWordsManyNumbers holds all pairs of numbers at the edges against numbers without an end.
func TestWordsManyNumbers(t *testing.T) {
	numbers := append([]int64{0, 1, 2, 3, -2, -3, 1<<63 - 25, 3037000499, 3037000500}, extremes...)
	for _, op := range []int{api.Add, api.Sub, api.Mul, api.Div} {
		for _, r := range numbers {
			for _, a := range numbers {
				if op != api.Div || a != 0 {
					tryTwo(t, op, r, a, reckoned(op, r, a))
				}
			}
		}
	}
}

// tryTwo also says the second number, which stays as it is.
func tryTwo(t *testing.T, op int, r, a, want int64) {
	t.Helper()
	k := ran(t, alone(0, []int{6}, set(1, r), set(2, a), on(op, 1, 2), say(1), say(2)), 1)
	traceIs(t, fmt.Sprintf("%d of %d and %d", op, r, a), k, 0, said(want), said(a), broke(api.ByEnd, 1), closed(6, api.ByBreak))
}

// TestWordsOneRegister: r and a may be the same.
func TestWordsOneRegister(t *testing.T) {
	for op, want := range map[int]int64{api.Add: 18, api.Sub: 0, api.Mul: 81, api.Div: 1, api.Load: -5, api.Store: 9} {
		c := alone(0, []int{3}, set(3, 9), on(op, 3, 3), say(3))
		c.Cells[0].Image = []int64{9: -5}
		k := ran(t, c, 1)
		word := int64(-5)
		if op == api.Store {
			word = 9
		}
		what := fmt.Sprintf("%d of one register", op)
		traceIs(t, what, k, 0, said(want), closed(3, api.BySteps))
		memoryIs(t, what, k, 0, []int64{9: word}...)
	}
}

// TestWordsRegisters: there are four, at first 0, and a step changes one of them alone.
func TestWordsRegisters(t *testing.T) {
	sayAll := []api.Ins{say(0), say(1), say(2), say(3)}
	for r := range api.Regs {
		for _, n := range extremes {
			i := set(r, n)
			i.A = 3 - r
			k := ran(t, alone(0, []int{9}, slices.Concat(sayAll, []api.Ins{i}, sayAll)...), 1)
			after := make([]int64, api.Regs)
			after[r] = n
			want := append(make([]int64, api.Regs), after...)
			if got := saidBy(t, k, 0); !slices.Equal(got, want) {
				t.Errorf("Set %d %d: said %v, want %v", r, n, got, want)
			}
		}
	}
}

// TestWordsNDoesNotMatter: but for Set, Jump and Zero, N is not looked at in what a cell does alone.
func TestWordsNDoesNotMatter(t *testing.T) {
	for _, op := range []int{api.Add, api.Sub, api.Mul, api.Div, api.Load, api.Store, api.Log, api.Yield} {
		var want seen
		for at, n := range append([]int64{0}, extremes...) {
			k := ran(t, alone(0, []int{4}, set(0, 6), set(1, 2), api.Ins{Op: op, A: 1, N: n}, say(0)), 1)
			if at == 0 {
				want = look(k, 0)
			} else if got := look(k, 0); !reflect.DeepEqual(got, want) {
				t.Errorf("%d with the N %d: %+v, want %+v", op, n, got, want)
			}
		}
	}
}

// TestWordsMemory stores into and loads from each word that there is.
func TestWordsMemory(t *testing.T) {
	image := []int64{lowest, -1, 2, 3, 4, 5, 6, 7, 8, 9, 10, 11, 12, 13, 14, highest}
	for n := range int64(api.Words) {
		c := alone(0, []int{8}, set(2, n), on(api.Load, 0, 2), say(0), set(1, 99), on(api.Store, 1, 2), on(api.Load, 3, 2), say(3), say(2))
		c.Cells[0].Image = image
		k := ran(t, c, 1)
		traceIs(t, fmt.Sprintf("word %d", n), k, 0, said(image[n]), said(99), said(n), closed(8, api.BySteps))
		want := slices.Clone(image)
		want[n] = 99
		memoryIs(t, fmt.Sprintf("word %d", n), k, 0, want...)
	}
}

// TestWordsJumps goes to the first, the same, and the last instruction.
func TestWordsJumps(t *testing.T) {
	for _, x := range []struct {
		what string
		code []api.Ins
		want []int64
	}{
		{"back", []api.Ins{say(0), set(0, 4), jump(0)}, []int64{0, 4, 4, 4}},
		{"to itself", []api.Ins{say(0), jump(1), say(0)}, []int64{0}},
		{"over one", []api.Ins{jump(2), say(0), set(0, 3), say(0), jump(4)}, []int64{3}},
		{"to the last", []api.Ins{jump(3), say(1), say(2), say(3)}, []int64{0}},
		{"whatever R is", []api.Ins{set(1, 5), {Op: api.Jump, R: 1, A: 1, N: 3}, say(0), say(1), jump(4)}, []int64{5}},
		{"Zero at 0", []api.Ins{set(1, 1), zero(0, 3), say(1), say(0), jump(4)}, []int64{0}},
		{"Zero at 1", []api.Ins{set(0, 1), zero(0, 3), say(1), say(0), jump(4)}, []int64{0, 1}},
		{"Zero at -1", []api.Ins{set(0, -1), zero(0, 3), say(1), say(0), jump(4)}, []int64{0, -1}},
		{"Zero at the least", []api.Ins{set(0, lowest), zero(0, 3), say(1), say(0), jump(4)}, []int64{0, lowest}},
		{"Zero at 1<<32", []api.Ins{set(0, 1<<32), zero(0, 3), say(1), say(0), jump(4)}, []int64{0, 1 << 32}},
		{"Zero looks at R, not at A", []api.Ins{set(1, 1), {Op: api.Zero, R: 1, A: 0, N: 3}, say(1), say(0), jump(4)}, []int64{1, 0}},
	} {
		k := ran(t, alone(0, []int{10}, x.code...), 1)
		if got := saidBy(t, k, 0); !slices.Equal(got, x.want) {
			t.Errorf("%s: said %v, want %v", x.what, got, x.want)
		}
	}
}

// TestWordsBreaks has each reason, and what does not yet break.
func TestWordsBreaks(t *testing.T) {
	for _, n := range append([]int64{0, 1, 14, 15, 16}, extremes...) {
		for _, op := range []int{api.Load, api.Store} {
			k := ran(t, alone(0, []int{2}, set(1, n), on(op, 0, 1)), 1)
			want := []api.Event{closed(2, api.BySteps)}
			if n < 0 || n > 15 {
				want = []api.Event{broke(api.ByMemory, 1), closed(2, api.ByBreak)}
			}
			traceIs(t, fmt.Sprintf("%d of the word %d", op, n), k, 0, want...)
		}
		k := ran(t, alone(0, []int{3}, set(0, 5), set(1, n), on(api.Div, 0, 1)), 1)
		want := []api.Event{closed(3, api.BySteps)}
		if n == 0 {
			want = []api.Event{broke(api.ByDiv, 1), closed(3, api.ByBreak)}
		}
		traceIs(t, fmt.Sprintf("Div by %d", n), k, 0, want...)
	}
	for size := 1; size <= api.MaxCode; size++ {
		code := slices.Repeat([]api.Ins{set(0, 1)}, size)
		k := ran(t, alone(0, []int{api.MaxCode + 1}, code...), 1)
		traceIs(t, fmt.Sprintf("%d instructions", size), k, 0, broke(api.ByEnd, 1), closed(int64(size)+1, api.ByBreak))
	}
}

// TestWordsBehindTheEnd: a Yield or a Zero that stays may be the last one too; a jump is not.
func TestWordsBehindTheEnd(t *testing.T) {
	k := ran(t, alone(0, []int{9}, op(api.Yield)), 2)
	traceIs(t, "a Yield", k, 0, closed(1, api.ByYield), broke(api.ByEnd, 1), closed(1, api.ByBreak))
	k = ran(t, alone(0, []int{9}, set(0, 1), zero(0, 0)), 1)
	traceIs(t, "a Zero that stays", k, 0, broke(api.ByEnd, 1), closed(3, api.ByBreak))
	k = ran(t, alone(0, []int{9}, set(0, 0), zero(0, 0)), 1)
	traceIs(t, "a Zero that jumps", k, 0, closed(9, api.BySteps))
	k = ran(t, alone(0, []int{9}, set(0, 0), jump(0)), 1)
	traceIs(t, "a Jump", k, 0, closed(9, api.BySteps))
}

// TestWordsAnew: after a break registers, memory and next instruction are as at first, for whatever reason.
func TestWordsAnew(t *testing.T) {
	begin := []api.Ins{say(0), say(1), say(2), say(3), on(api.Load, 0, 1), say(0), set(0, 50), set(1, 15), set(2, -7), set(3, 16), on(api.Store, 0, 1), set(1, 0), on(api.Store, 0, 1)}
	image := []int64{41, 42}
	for why, last := range map[int64][]api.Ins{api.ByDiv: {on(api.Div, 0, 1)}, api.ByMemory: {on(api.Load, 0, 3)}, api.ByEnd: nil} {
		c := alone(2, []int{13, 99}, slices.Concat(begin, last)...)
		c.Cells[0].Image = image
		k := made(t, c)
		var want []api.Event
		for often := range int64(3) {
			memoryIs(t, "as at first", k, 0, image...)
			run(t, k, 1)
			memoryIs(t, "ahead of the break", k, 0, []int64{50, 42, 15: 50}...)
			run(t, k, 1)
			want = append(want, said(0), said(0), said(0), said(0), said(41), closed(13, api.BySteps), broke(why, often+1), closed(1, api.ByBreak))
			traceIs(t, fmt.Sprintf("broken %d times by %d", often+1, why), k, 0, want...)
		}
		memoryIs(t, "stopped", k, 0, image...)
	}
}

// TestWordsStopped: a cell is stopped when it has broken more often than its Limit, not earlier.
func TestWordsStopped(t *testing.T) {
	for limit := range api.MaxLimit + 1 {
		k := made(t, alone(limit, []int{5}, set(0, 1), on(api.Div, 0, 1)))
		var want []api.Event
		for frame := 1; frame <= 9; frame++ {
			run(t, k, 1)
			broken := min(frame, limit+1)
			if frame <= limit+1 {
				want = append(want, broke(api.ByDiv, int64(frame)), closed(2, api.ByBreak))
			} else {
				want = append(want, closed(0, api.BySkip))
			}
			what := fmt.Sprintf("limit %d, frame %d", limit, frame)
			traceIs(t, what, k, 0, want...)
			statsAre(t, what, k, 0, api.Stats{Steps: 2 * broken, Broken: broken, Stopped: frame > limit})
		}
	}
}
