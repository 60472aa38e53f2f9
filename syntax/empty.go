package syntax

// findEmpty finds what is known of the empty string behind each type. These strings hang on one another, so it goes round by round, from nothing upward. All that has no type twice on any way down is found in as many rounds as there are types: what still changes then goes round.
func (t *table) findEmpty() {
	for round := 0; ; round++ {
		changed := false
		for _, kind := range t.kinds {
			k := keyOf(kind, 0, 0)
			v := t.empty(kind)
			if v != t.known[k] && round >= len(t.kinds) {
				v = t.around(v, v)
			}
			if v != t.known[k] {
				t.known[k], changed = v, true
			}
		}
		if !changed {
			return
		}
	}
}

// empty is what leaves and rules make of the empty string behind a type.
func (t *table) empty(kind int) int {
	v := t.given(keyOf(kind, 0, 0))
	for _, r := range t.rules[kind] {
		v = t.either(v, t.beside(r, -1))
	}
	return v
}

// beside is what a rule makes of empty strings at all places of its goal but one (-1: at all).
func (t *table) beside(r rule, but int) int {
	v := 1
	for i, p := range r.goal {
		switch {
		case i == but:
		case p.variable:
			v = t.both(t.known[keyOf(p.symbol, 0, 0)], v)
		default:
			return 0
		}
	}
	return v
}

// links tells, by the places of a part's type and of a whole's: by what ways a string behind the one type, with empty strings alone beside it, becomes itself behind the other, by a rule or by several, one after the other.
func (t *table) links() [][]int {
	links := make([][]int, len(t.kinds))
	for part := range links {
		links[part] = make([]int, len(t.kinds))
	}
	for whole, kind := range t.kinds {
		for _, r := range t.rules[kind] {
			for i, p := range r.goal {
				if p.variable {
					part := t.number[p.symbol]
					links[part][whole] = t.either(links[part][whole], t.beside(r, i))
				}
			}
		}
	}
	t.chain(links)
	return links
}

// chain adds the ways of several rules to those of one, type by type: all that go through it, perhaps more than once, between what is linked without it.
func (t *table) chain(links [][]int) {
	for middle := range links {
		loop := links[middle][middle]
		for part := range links {
			up := links[part][middle]
			if up == 0 {
				continue
			}
			for whole, way := range links[middle] {
				links[part][whole] = t.either(links[part][whole], t.around(loop, t.both(up, way)))
			}
		}
	}
}
