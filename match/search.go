package match

import (
	"iter"

	"lemma/api"
	"lemma/expr"
)

// A search is a task with the strings that are chosen so far.
type search struct {
	task
	strings []api.Expr          // in the order of the task's variables
	chosen  [api.MaxSpread]bool // whose string is chosen; those that must be empty are never asked about
}

// A place is where a search stands: in which pair, at which cell of it, and at which symbol of its expression.
type place struct {
	pair, cell, symbol int
}

// matches hands on the strings of each match, in order; the list is the same each time, and what stands in it is the expressions' own.
func (t task) matches() iter.Seq[[]api.Expr] {
	return func(yield func([]api.Expr) bool) {
		if t.none {
			return
		}
		s := search{task: t, strings: make([]api.Expr, len(t.vars))}
		// choose answers false, when nobody wants a further match.
		var choose func(from place) bool
		choose = func(from place) bool {
			at, fits := s.walk(from)
			if !fits {
				return true
			}
			if at.pair == len(s.pairs) {
				return yield(s.strings)
			}
			p := s.pairs[at.pair]
			slot := p.cells[at.cell].slot
			least, most := s.lengths(at)
			s.chosen[slot] = true
			for n := least; n <= most; n++ {
				s.strings[slot] = p.expr[at.symbol : at.symbol+n]
				if !choose(at) {
					return false
				}
			}
			s.chosen[slot] = false
			return true
		}
		choose(place{})
	}
}

// walk goes from a place over all that is settled, to the first variable without a string or to the end of all pairs; false: something on the way does not fit.
func (s *search) walk(at place) (place, bool) {
	for at.pair < len(s.pairs) {
		p := s.pairs[at.pair]
		if at.cell == len(p.cells) {
			if at.symbol < len(p.expr) {
				return at, false
			}
			at = place{pair: at.pair + 1}
			continue
		}
		c := p.cells[at.cell]
		if c.slot >= 0 && !s.chosen[c.slot] {
			return at, true
		}
		n, fits := s.over(c, p.expr[at.symbol:])
		if !fits {
			return at, false
		}
		at.cell++
		at.symbol += n
	}
	return at, true
}

// over tells how many symbols a settled cell takes at the front of what is left of an expression, and whether these are its own.
func (s *search) over(c cell, rest api.Expr) (int, bool) {
	if c.slot < 0 {
		return 1, len(rest) > 0 && rest[0] == c.symbol
	}
	put := s.strings[c.slot]
	return len(put), len(put) <= len(rest) && expr.Equal(rest[:len(put)], put)
}

// lengths tells from which to which length the string of the variable at a place may have, as far as the rest of its pattern says; none, if least is above most.
func (s *search) lengths(at place) (least, most int) {
	p := s.pairs[at.pair]
	room, times, open := len(p.expr)-at.symbol, 0, false
	for _, c := range p.cells[at.cell:] {
		switch {
		case c.slot < 0:
			room--
		case c.slot == p.cells[at.cell].slot:
			times++
		case s.chosen[c.slot]:
			room -= len(s.strings[c.slot])
		default:
			open = true
		}
	}
	if room < 0 || !open && room%times > 0 {
		return 0, -1
	}
	most = room / times
	if open {
		return 0, most
	}
	// The last variable of a pattern without a string takes all the room that there is.
	return most, most
}
