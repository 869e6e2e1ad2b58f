package cells

import (
	"slices"

	"cloister/api"
)

// step does the instruction that comes next, and answers which one it was.
func (c *Cell) step(in []api.In, events chan<- api.Event) int {
	// Counted first, because the step at which the cell breaks counts too.
	c.steps++
	i := c.fetch()
	r, a := &c.now.regs[i.R], &c.now.regs[i.A]
	switch i.Op {
	case api.Set:
		*r = i.N
	case api.Add:
		*r += *a
	case api.Sub:
		*r -= *a
	case api.Mul:
		*r *= *a
	case api.Div:
		*r = quotient(*r, *a)
	case api.Load:
		*r = *c.word(*a)
	case api.Store:
		*c.word(*a) = *r
	case api.Jump:
		c.now.next = int(i.N)
	case api.Zero:
		if *r == 0 {
			c.now.next = int(i.N)
		}
	case api.Log:
		events <- api.Event{Kind: api.Said, A: *r}
	case api.Send, api.Write, api.Take, api.Read, api.Input, api.Lost:
		c.exchange(i, in)
	}
	return i.Op
}

// exchange does the instructions of channels and devices. Where r and a are one register,
// a stays, since of two assignments in one line the right one is carried out last.
func (c *Cell) exchange(i api.Ins, in []api.In) {
	r, a := &c.now.regs[i.R], &c.now.regs[i.A]
	switch i.Op {
	case api.Send:
		c.net.Queue(i.N).Send(*r)
	case api.Write:
		c.net.Sample(i.N).Write(*r)
	case api.Take:
		*r, *a = c.net.Queue(i.N).Take()
	case api.Read:
		*r, *a = c.net.Sample(i.N).Read()
	case api.Input:
		*r, *a = saidBy(i.N, in)
	case api.Lost:
		*r = c.net.Queue(i.N).Lost()
	}
}

// saidBy answers the first number that a device says and 1; or 0 and 0, if it says none.
// Inputs of a device that there is not are never asked for.
func saidBy(dev int64, in []api.In) (number, said int64) {
	at := slices.IndexFunc(in, func(x api.In) bool { return int64(x.Dev) == dev })
	if at < 0 {
		return 0, 0
	}
	return in[at].N, 1
}

// fetch answers the instruction that comes next, and goes to the one behind it.
func (c *Cell) fetch() api.Ins {
	if c.now.next == len(c.code) {
		panic(breaking(api.ByEnd))
	}
	i := c.code[c.now.next]
	c.now.next++
	return i
}

func quotient(n, by int64) int64 {
	if by == 0 {
		panic(breaking(api.ByDiv))
	}
	return n / by
}

func (c *Cell) word(n int64) *int64 {
	if n < 0 || n >= api.Words {
		panic(breaking(api.ByMemory))
	}
	return &c.now.memory[n]
}
