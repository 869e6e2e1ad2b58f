package chans

// nothing is the age of a sample that shows nothing yet.
const nothing = -1

// Sample shows one number, and how long it has shown it.
type Sample struct {
	shown   int64
	age     int64
	written int64
	anew    bool // whether it was written in this frame: the same number counts too
}

// Write sets a number, which nobody sees ahead of the frame's end.
func (s *Sample) Write(number int64) {
	s.written, s.anew = number, true
}

// Read answers what the sample shows, and its age.
func (s *Sample) Read() (number, age int64) {
	return s.shown, s.age
}

func (s *Sample) forget() {
	s.written, s.anew = 0, false
}

func (s *Sample) endFrame() {
	switch {
	case s.anew:
		*s = Sample{shown: s.written}
	case s.age != nothing:
		s.age++
	}
}
