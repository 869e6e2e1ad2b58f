package cells

import "cloister/api"

// step does the instruction that comes next, and answers which one it was.
func (c *Cell) step(events chan<- api.Event) int {
	// Counted first, because the step at which the cell breaks counts too.
	c.steps++
	i := c.fetch()
	r, a := &c.now.regs[i.R], c.now.regs[i.A]
	switch i.Op {
	case api.Set:
		*r = i.N
	case api.Add:
		*r += a
	case api.Sub:
		*r -= a
	case api.Mul:
		*r *= a
	case api.Div:
		*r = quotient(*r, a)
	case api.Load:
		*r = *c.word(a)
	case api.Store:
		*c.word(a) = *r
	case api.Jump:
		c.now.next = int(i.N)
	case api.Zero:
		if *r == 0 {
			c.now.next = int(i.N)
		}
	case api.Log:
		events <- api.Event{Kind: api.Said, A: *r}
	}
	return i.Op
}

// fetch answers the instruction that comes next, and goes to the one behind it.
func (c *Cell) fetch() api.Ins {
	if c.now.next == len(c.code) {
		panic(breaking(api.ByEnd))
	}
	i := c.code[c.now.next]
	c.now.next++
	return i
}

func quotient(n, by int64) int64 {
	if by == 0 {
		panic(breaking(api.ByDiv))
	}
	return n / by
}

func (c *Cell) word(n int64) *int64 {
	if n < 0 || n >= api.Words {
		panic(breaking(api.ByMemory))
	}
	return &c.now.memory[n]
}
