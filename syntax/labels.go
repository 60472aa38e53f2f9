package syntax

// A step is the last one of a derivation: a rule, and the strings that its goal's variables get, from the left.
type step struct {
	rule    rule
	strings []key
}

// labels gives the least derivation of a string, parts first. The table is of sizes.
func (t *table) labels(k key) []string {
	var labels []string
	steps := map[key]step{} // that were looked for: a string may be a part again and again
	var write func(k key)
	write = func(k key) {
		if leaves := t.leaves[k]; len(leaves) > 0 {
			labels = append(labels, leaves[0])
			return
		}
		s, again := steps[k]
		if !again {
			s = t.first(k)
			steps[k] = s
		}
		for _, n := range s.rule.order {
			write(s.strings[n])
		}
		labels = append(labels, s.rule.label)
	}
	write(k)
	return labels
}

// first gives the last step of the least derivation of a string that no leaf derives: by the first rule that makes it with so few labels, with the shortest string for the first variable, then for the next one.
func (t *table) first(k key) step {
	var s step
	for _, s.rule = range t.rules[k.kind] {
		x := newTail(s.rule)
		for from := k.to; from >= k.from; from-- {
			t.extend([]tail{x}, from, k.to)
		}
		begin, left := k.from, t.known[k]
		for i := 0; x.rest[i][begin] == left; i++ {
			if i == len(s.rule.goal) {
				goto found
			}
			p := s.rule.goal[i]
			if !p.variable {
				begin++
				continue
			}
			for end := begin; end <= k.to; end++ {
				part, rest := keyOf(p.symbol, begin, end), x.rest[i+1][end]
				if t.both(t.known[part], rest) == left {
					s.strings = append(s.strings, part)
					begin, left = end, rest
					break
				}
			}
		}
	}
found:
	return s
}
