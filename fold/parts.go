package fold

import "lemma/api"

// part is one of a derivation's different parts, all equal ones being one: its label, its own parts by their numbers, and in how many argument places it stands.
type part struct {
	label  string
	kids   []int
	places int
}

// saved tells whether the part is worth a save: a label alone costs as much as a back reference.
func (p part) saved() bool { return len(p.kids) > 0 && p.places > 1 }

// form is what equal parts have in common, and no others: a label, and the row of their own parts, by its number.
type form struct {
	label string
	row   int
}

// row is a row of parts: one that is a part shorter, and the part behind it. So a row's number hangs on two numbers, however many parts it has.
type row struct{ ahead, last int }

// noParts is the number of the row of no parts; those of others are greater.
const noParts = 0

// sharing finds equal parts. A part gets the number of its place in parts.
type sharing struct {
	parts []part
	forms map[form]int
	rows  map[row]int
}

// different gives the different parts of the last node's derivation, each behind its own: the last one is the whole. False: there is no node, or one that the last leads to has a kid that is no earlier node.
func different(l []api.Node) ([]part, bool) {
	led, sound := ledTo(l)
	if !sound {
		return nil, false
	}
	s := sharing{forms: map[form]int{}, rows: map[row]int{}}
	number := make([]int, len(l)) // of the part of each node that the last leads to
	for n, node := range l {
		if !led[n] {
			continue
		}
		kids := make([]int, 0, len(node.Kids))
		for _, kid := range node.Kids {
			kids = append(kids, number[kid])
		}
		number[n] = s.part(node.Label, kids)
	}
	return s.parts, true
}

// ledTo tells of each node whether the last one leads to it. Kids stand ahead of what holds them: going backwards, each node is looked at once, behind all that may lead to it. False: as different says.
func ledTo(l []api.Node) ([]bool, bool) {
	if len(l) == 0 {
		return nil, false
	}
	led := make([]bool, len(l))
	led[len(l)-1] = true
	for n := len(l) - 1; n >= 0; n-- {
		if !led[n] {
			continue
		}
		for _, kid := range l[n].Kids {
			if kid < 0 || kid >= n {
				return nil, false
			}
			led[kid] = true
		}
	}
	return led, true
}

// part gives the number of the part with this label and these parts; one that was not met yet holds each of them in a place more.
func (s *sharing) part(label string, kids []int) int {
	f := form{label, s.row(kids)}
	if n, met := s.forms[f]; met {
		return n
	}
	for _, kid := range kids {
		s.parts[kid].places++
	}
	n := len(s.parts)
	s.parts = append(s.parts, part{label: label, kids: kids})
	s.forms[f] = n
	return n
}

func (s *sharing) row(kids []int) int {
	n := noParts
	for _, kid := range kids {
		longer := row{n, kid}
		if _, met := s.rows[longer]; !met {
			s.rows[longer] = len(s.rows) + 1
		}
		n = s.rows[longer]
	}
	return n
}
