package rules

import (
	"slices"

	"cloister/api"
)

// end is one of the two ends of a channel.
type end int

const (
	from end = 1
	to   end = 2
)

// use is a way to use a channel. The number has the type of an instruction's N,
// so that an N too great for an int is not cut to the number of some channel.
type use struct {
	end    end
	kind   int
	number int64
}

// setting is what the instructions of a cell are held against.
type setting struct {
	cell  int
	code  int
	devs  []int
	users map[use]int
}

func faultyCell(c api.Config) int {
	users := usersOf(c.Chans)
	for n, cell := range c.Cells {
		s := setting{cell: n, code: len(cell.Code), devs: c.Devs, users: users}
		if !s.cellMayBe(cell) {
			return n
		}
	}
	return none
}

// usersOf answers, for each use that a channel has, the cell that may make it.
func usersOf(chans []api.Chan) map[use]int {
	users := map[use]int{}
	for n, c := range chans {
		users[use{from, c.Kind, int64(n)}] = c.From
		users[use{to, c.Kind, int64(n)}] = c.To
	}
	return users
}

func (s setting) cellMayBe(cell api.Cell) bool {
	if cell.Limit < 0 || cell.Limit > api.MaxLimit || len(cell.Image) > api.Words {
		return false
	}
	if s.code < 1 || s.code > api.MaxCode {
		return false
	}
	return !slices.ContainsFunc(cell.Code, func(i api.Ins) bool { return !s.insMayBe(i) })
}

func (s setting) insMayBe(i api.Ins) bool {
	if !numbers(i.R, api.Regs) || !numbers(i.A, api.Regs) {
		return false
	}
	switch i.Op {
	case api.Yield, api.Set, api.Add, api.Sub, api.Mul, api.Div, api.Load, api.Store, api.Log:
		return true
	case api.Jump, api.Zero:
		return numbers(i.N, s.code)
	case api.Send:
		return s.mayUse(use{from, api.Queue, i.N})
	case api.Write:
		return s.mayUse(use{from, api.Sample, i.N})
	case api.Take, api.Lost:
		return s.mayUse(use{to, api.Queue, i.N})
	case api.Read:
		return s.mayUse(use{to, api.Sample, i.N})
	case api.Input:
		return numbers(i.N, len(s.devs)) && s.devs[i.N] == s.cell
	}
	return false
}

func (s setting) mayUse(u use) bool {
	user, ok := s.users[u]
	return ok && user == s.cell
}
