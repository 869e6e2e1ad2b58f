package chans

import (
	"slices"

	"cloister/api"
)

// Queue holds messages until they are taken.
type Queue struct {
	waiting []int64
	sent    []int64 // in this frame; kept apart, so that a break can take them back
	lost    int64   // since this was last asked
}

// Send adds a message, which nobody sees ahead of the frame's end.
func (q *Queue) Send(message int64) {
	q.sent = append(q.sent, message)
}

// Take takes the first message out, and answers it and 1; or 0 and 0, if none waits.
func (q *Queue) Take() (message, taken int64) {
	if len(q.waiting) == 0 {
		return 0, 0
	}
	message = q.waiting[0]
	q.waiting = slices.Delete(q.waiting, 0, 1)
	return message, 1
}

// Lost answers how many messages were lost since it was last asked.
func (q *Queue) Lost() int64 {
	lost := q.lost
	q.lost = 0
	return lost
}

func (q *Queue) forget() {
	q.sent = nil
}

func (q *Queue) endFrame() {
	for _, message := range q.sent {
		if len(q.waiting) < api.Room {
			q.waiting = append(q.waiting, message)
		} else {
			q.lost++
		}
	}
	q.sent = nil
}
