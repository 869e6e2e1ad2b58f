package chans

import "slices"

// Above answers a cell and all cells from which a channel leads to one of them, rising, in a list of their own (P9).
func (n *Net) Above(cell int) []int {
	above := []int{cell}
	// The list grows meanwhile: what is found is looked at in its turn, and only once, so that a ring of channels ends.
	for at := 0; at < len(above); at++ {
		for _, e := range n.ends {
			if e.to == above[at] && !slices.Contains(above, e.from) {
				above = append(above, e.from)
			}
		}
	}
	slices.Sort(above)
	return above
}
