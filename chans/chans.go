// Package chans: the channels between cells: what waits in queues and shows in samples, and what a frame's end brings to them.
package chans

import "cloister/api"

// Net is all the channels of a kernel. Each number stands for a queue and for a sample;
// the one that the channel is not of the kind of is never asked for.
type Net struct {
	ends    []ends // by the channel's number
	queues  []Queue
	samples []Sample
}

// ends are the cells that a channel leads from and to.
type ends struct {
	from, to int
}

// New makes channels that may be, and keeps nothing of what it is handed.
func New(list []api.Chan) *Net {
	n := &Net{}
	for _, c := range list {
		n.ends = append(n.ends, ends{c.From, c.To})
		n.queues = append(n.queues, Queue{})
		n.samples = append(n.samples, Sample{age: nothing})
	}
	return n
}

// Queue answers the queue of that number.
func (n *Net) Queue(number int64) *Queue { return &n.queues[number] }

// Sample answers the sample of that number.
func (n *Net) Sample(number int64) *Sample { return &n.samples[number] }

// Forget drops what a cell has sent and written in this frame, and nothing that waits or shows already (P7).
func (n *Net) Forget(cell int) {
	for number, e := range n.ends {
		if e.from == cell {
			n.queues[number].forget()
			n.samples[number].forget()
		}
	}
}

// EndFrame lets what was sent and written in this frame be seen (P6).
func (n *Net) EndFrame() {
	for number := range n.queues {
		n.queues[number].endFrame()
	}
	for number := range n.samples {
		n.samples[number].endFrame()
	}
}
