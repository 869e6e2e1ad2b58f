package cells

import "cloister/api"

// breaking is what a step panics with: why the cell breaks.
type breaking int64

// Window runs the cell for at most so many steps, with what the devices say in this frame.
// Its events come over the channel, which must be ranged over to its end: until then the cell
// and the net are the window's alone.
func (c *Cell) Window(budget int, in []api.In) <-chan api.Event {
	events := make(chan api.Event)
	go func() {
		defer close(events)
		before := c.steps
		why := c.run(budget, in, events)
		events <- api.Event{Kind: api.Closed, A: int64(c.steps - before), B: why}
	}()
	return events
}

// run does the steps of a window, and answers why it ended.
func (c *Cell) run(budget int, in []api.In, events chan<- api.Event) (why int64) {
	if c.stopped() {
		return api.BySkip
	}
	defer func() {
		if because, ok := recover().(breaking); ok {
			c.startAnew()
			events <- api.Event{Kind: api.Broke, A: int64(because), B: int64(c.broken)}
			why = api.ByBreak
		}
	}()
	for range budget {
		if c.step(in, events) == api.Yield {
			return api.ByYield
		}
	}
	return api.BySteps
}

func (c *Cell) startAnew() {
	c.net.Forget(c.number)
	c.now = c.first
	c.broken++
}
