package syntax

import (
	"slices"

	"lemma/api"
)

// A table holds what is known, by one measure, of each string of a text behind each type.
type table struct {
	grammar
	measure
	known map[key]int
}

// tableOf goes from the empty string to the whole text, so that what a string is made of is known ahead of it.
func tableOf(g grammar, m measure) *table {
	t := &table{grammar: g, measure: m, known: map[key]int{}}
	t.learn(whole(nil), t.given(whole(nil)))
	t.findEmpty()
	links := t.links()
	var tails []tail
	for _, kind := range t.kinds {
		for _, r := range t.rules[kind] {
			tails = append(tails, newTail(r))
		}
	}
	for to := range len(t.text) + 1 {
		t.extend(tails, to, to)
		for from := to - 1; from >= 0; from-- {
			t.find(from, to, tails, links)
		}
	}
	return t
}

// learn keeps no 0: it is what the table answers of all that it does not have.
func (t *table) learn(k key, v int) {
	if v != 0 {
		t.known[k] = v
	}
}

// given is what the leaves make of a string.
func (t *table) given(k key) int {
	v := 0
	for range t.leaves[k] {
		v = t.either(v, 1)
	}
	return v
}

// find finds what is known of one string, with some symbol in it, behind each type: first without parts that are this whole string, as these are not known yet, then with them, by the links.
func (t *table) find(from, to int, tails []tail, links [][]int) {
	direct := make([]int, len(t.kinds))
	for n, kind := range t.kinds {
		direct[n] = t.given(key{kind, from, to})
	}
	t.extend(tails, from, to)
	for _, x := range tails {
		n := t.number[x.rule.kind]
		direct[n] = t.either(direct[n], x.rest[0][from])
	}
	if slices.Max(direct) == 0 {
		return
	}
	for n, v := range follow(t.measure, direct, links) {
		t.learn(key{t.kinds[n], from, to}, v)
	}
	t.extend(tails, from, to)
}

// follow adds to what is known of one string behind each type what the links make of it.
func follow(m measure, direct []int, links [][]int) []int {
	made := slices.Clone(direct)
	for part, v := range direct {
		if v == 0 {
			continue
		}
		for whole, way := range links[part] {
			made[whole] = m.either(made[whole], m.both(v, way))
		}
	}
	return made
}

// extend finds what is known of the tails of rules from one beginning on; that of the later ones is known.
func (t *table) extend(tails []tail, from, to int) {
	for _, x := range tails {
		last := len(x.rule.goal)
		x.rest[last][from] = 0
		if from == to {
			x.rest[last][from] = 1
		}
		for i := last - 1; i >= 0; i-- {
			x.rest[i][from] = t.fromPlace(x.rule.goal[i], from, x.rest[i+1][:to+1])
		}
	}
}

// fromPlace lets a place of a goal take its symbol, or each string that it may, ahead of the rest.
func (t *table) fromPlace(p place, from int, rest []int) int {
	if !p.variable {
		if from+1 < len(rest) && t.text[from] == p.symbol {
			return rest[from+1]
		}
		return 0
	}
	v := 0
	for end := from; end < len(rest); end++ {
		if rest[end] != 0 {
			v = t.either(v, t.both(t.known[keyOf(p.symbol, from, end)], rest[end]))
		}
	}
	return v
}

// A tail is of one rule and one end in the text: by place in the goal and by beginning in the text, what is known of the goal from that place on, if it makes the text from that beginning to the end. Behind the goal's last place stands the rule's own label.
type tail struct {
	rule rule
	rest [][api.MaxParse]int
}

func newTail(r rule) tail {
	return tail{rule: r, rest: make([][api.MaxParse]int, len(r.goal)+1)}
}
