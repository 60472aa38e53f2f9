package syntax

import (
	"fmt"
	"slices"
	"strings"
)

// row is a row of numbers that is always the same.
type row uint64

func (r *row) below(n int) int {
	*r = *r*6364136223846793005 + 1442695040888963407
	return int(uint64(*r)>>33) % n
}

// one picks one of a list.
func one[T any](r *row, l []T) T { return l[r.below(len(l))] }

// A theory is what a text says, by words, as these tests read it: leaves and rules, with statements about them that are neither.
type theory struct {
	kinds  []string
	types  map[string]string // by variable
	leaves []leaf
	rules  []axiom
	text   string
}

// A leaf is a hypothesis.
type leaf struct{ label, words string }

// An axiom is a rule: its goal's type, what is behind it, and its variables in the order of its hypotheses.
type axiom struct {
	label string
	kind  string
	goal  []string
	hyps  []string
}

// theory writes a text by the row: types t and u, constants ( and k, four variables, some rules, and other statements between and behind them.
func (r *row) theory(rules, places int) *theory { return r.theoryOf("t u t u", rules, places) }

// theoryOf does so with four types, of which some may be the same.
func (r *row) theoryOf(types string, rules, places int) *theory {
	th := &theory{types: map[string]string{}}
	four := strings.Fields(types)
	for _, kind := range four {
		if !slices.Contains(th.kinds, kind) {
			th.kinds = append(th.kinds, kind)
		}
	}
	th.text = "$c " + strings.Join(th.kinds, " ") + " ( k $. $v a b c d $. "
	variables := []string{"a", "b", "c", "d"}
	for i := range variables {
		j := i + r.below(len(variables)-i)
		variables[i], variables[j] = variables[j], variables[i]
	}
	for i, v := range variables {
		th.types[v] = four[(i+r.below(2)*r.below(2))%4]
		th.addLeaf("h"+v, "$f", th.types[v]+" "+v)
	}
	for n := range rules {
		if r.below(4) == 0 {
			th.text += r.other(th, fmt.Sprint("o", n))
		}
		th.addRule(r.rule(th, places, fmt.Sprint("r", n)), variables)
	}
	th.text += "${ "
	for n := range r.below(4) * r.below(2) {
		th.addLeaf(fmt.Sprint("e", n), "$e", r.words(th, 3))
	}
	th.text += "last $a t $. $}"
	return th
}

func (th *theory) addLeaf(label, key, words string) {
	th.leaves = append(th.leaves, leaf{label, words})
	th.text += fmt.Sprintf("%s %s %s $. ", label, key, words)
}

// addRule lets the hypotheses of a rule stand in the order in which the text has them.
func (th *theory) addRule(a axiom, variables []string) {
	for _, v := range variables {
		if slices.Contains(a.goal, v) {
			a.hyps = append(a.hyps, v)
		}
	}
	th.rules = append(th.rules, a)
	th.text += fmt.Sprintf("%s $a %s %s $. ", a.label, a.kind, strings.Join(a.goal, " "))
}

// rule makes one of up to so many places.
func (r *row) rule(th *theory, places int, label string) axiom {
	a := axiom{label: label, kind: one(r, th.kinds)}
	for range r.below(places + 1) {
		word := one(r, []string{"(", "k", "a", "b", "c", "d", "a", "b", "c", "d"})
		if !slices.Contains(a.goal, word) || th.types[word] == "" {
			a.goal = append(a.goal, word)
		}
	}
	return a
}

// other makes an assertion that is no rule.
func (r *row) other(th *theory, label string) string {
	switch r.below(5) {
	case 0:
		return label + " $a " + one(r, th.kinds) + " a b a $. "
	case 1:
		return label + " $a " + one(r, th.kinds) + " c c $. "
	case 2:
		return fmt.Sprintf("${ $d a b $. %s $a %s b a $. $} ", label, one(r, th.kinds))
	case 3:
		return fmt.Sprintf("${ %s.e $e t ( $. %s $a %s a $. $} ", label, label, one(r, th.kinds))
	}
	return fmt.Sprintf("${ %s.e $e u b $. %s $p %s b $= ? $. $} ", label, label, one(r, th.kinds))
}

// words makes an expression, whether it has a derivation or not.
func (r *row) words(th *theory, most int) string {
	words := []string{one(r, th.kinds)}
	for range r.below(most + 1) {
		words = append(words, one(r, []string{"(", "k", "a", "b", "c", "d", "a", "b", "c", "d", "t"}))
	}
	return strings.Join(words, " ")
}

// derived makes an expression that has a derivation, if it comes to an end soon, and now and then alters it at a place.
func (r *row) derived(th *theory, kind string, deep int) []string {
	var words []string
	if leaves := th.ofType(kind); len(leaves) > 0 && r.below(deep+1) == 0 {
		return strings.Fields(one(r, leaves).words)[1:]
	}
	var rules []axiom
	for _, a := range th.rules {
		if a.kind == kind {
			rules = append(rules, a)
		}
	}
	if len(rules) == 0 || deep == 0 {
		return []string{one(r, []string{"a", "b", "c", "d"})}
	}
	for _, word := range one(r, rules).goal {
		if of := th.types[word]; of != "" {
			words = append(words, r.derived(th, of, deep-1)...)
		} else {
			words = append(words, word)
		}
	}
	if len(words) > 0 && r.below(20) == 0 {
		words[r.below(len(words))] = one(r, []string{"(", "k", "a", "b", "c", "d"})
	}
	return words
}

// ofType gives the leaves of a type.
func (th *theory) ofType(kind string) []leaf {
	var l []leaf
	for _, x := range th.leaves {
		if strings.Fields(x.words)[0] == kind {
			l = append(l, x)
		}
	}
	return l
}
