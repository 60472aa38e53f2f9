package syntax

import (
	"slices"

	"lemma/api"
	"lemma/base"
	"lemma/scan"
)

// A key is a part of an expression behind a type: where it begins there, and where what is behind it does.
type key struct{ kind, from, to int }

// keyOf gives one key to all empty strings of a type: wherever they are, it is the same expression.
func keyOf(kind, from, to int) key {
	if from == to {
		return key{kind, 0, 0}
	}
	return key{kind, from, to}
}

// whole gives an expression's key: its type, with all that is behind it. The expression of no symbol, which has no type, has a key that no other has.
func whole(e api.Expr) key {
	if len(e) == 0 {
		return key{0, -1, -1}
	}
	return keyOf(e[0], 0, len(e)-1)
}

// A place of a goal is a constant, or a variable, of which the type alone counts.
type place struct {
	variable bool
	symbol   int
}

// A rule is an assertion whose goal is derived from strings for its variables.
type rule struct {
	label string
	kind  int     // the goal's type
	goal  []place // what is behind it
	order []int   // of each hypothesis: which of the goal's variables, from the left, it gives a type
}

// A grammar is what an expression may be derived by.
type grammar struct {
	text   api.Expr         // what is behind the expression's type
	kinds  []int            // the types of all parts that a derivation may have
	number map[int]int      // of a type: its place among these
	leaves map[key][]string // labels, in the order of the hypotheses
	rules  map[int][]rule   // by their goals' types, in the order of their numbers
}

func newGrammar(b *base.Base, c api.Context, e api.Expr) grammar {
	g := grammar{number: map[int]int{}, leaves: map[key][]string{}, rules: map[int][]rule{}}
	if len(e) > 0 {
		g.text = e[1:]
	}
	taken := map[string]struct{}{}
	for _, h := range c.Hyps {
		if _, again := taken[h.Label]; !again && scan.Name(h.Label) {
			g.addLeaf(h)
		}
		taken[h.Label] = struct{}{}
	}
	for n := range min(c.Before, b.Count()) {
		a, _ := b.At(n)
		if _, again := taken[a.Label]; again {
			continue
		}
		if r, is := ruleOf(a); is && g.mayUse(r) {
			g.rules[r.kind] = append(g.rules[r.kind], r)
		}
	}
	if len(e) > 0 {
		g.addKinds(e[0])
	}
	return g
}

// addLeaf puts a hypothesis wherever its expression is a part.
func (g *grammar) addLeaf(h api.Hyp) {
	if len(h.Expr) == 0 {
		g.leaves[whole(nil)] = append(g.leaves[whole(nil)], h.Label)
		return
	}
	kind, text := h.Expr[0], h.Expr[1:]
	if len(text) == 0 {
		g.leaves[keyOf(kind, 0, 0)] = append(g.leaves[keyOf(kind, 0, 0)], h.Label)
		return
	}
	for from := 0; from+len(text) <= len(g.text); from++ {
		if to := from + len(text); slices.Equal(g.text[from:to], text) {
			g.leaves[keyOf(kind, from, to)] = append(g.leaves[keyOf(kind, from, to)], h.Label)
		}
	}
}

// ruleOf answers false, if an assertion is no rule.
func ruleOf(a api.Assertion) (rule, bool) {
	if len(a.Frame.Pairs) > 0 {
		return rule{}, false
	}
	kinds := map[int]int{}
	for _, h := range a.Frame.Hyps {
		if !h.Floating {
			return rule{}, false
		}
		kinds[h.Var] = h.Expr[0]
	}
	r := rule{label: a.Label, kind: a.Frame.Goal[0]}
	variables := map[int]int{} // which of the goal's variables it is
	for _, s := range a.Frame.Goal[1:] {
		kind, variable := kinds[s]
		if !variable {
			r.goal = append(r.goal, place{symbol: s})
			continue
		}
		if _, again := variables[s]; again {
			return rule{}, false
		}
		variables[s] = len(variables)
		r.goal = append(r.goal, place{variable: true, symbol: kind})
	}
	for _, h := range a.Frame.Hyps {
		r.order = append(r.order, variables[h.Var])
	}
	return r, true
}

// mayUse answers false of a rule with a constant that is nowhere in the text: it derives no part of it.
func (g *grammar) mayUse(r rule) bool {
	return !slices.ContainsFunc(r.goal, func(p place) bool {
		return !p.variable && !slices.Contains(g.text, p.symbol)
	})
}

// addKinds adds a type, and those of the parts that its rules ask for, and theirs.
func (g *grammar) addKinds(kind int) {
	g.addKind(kind)
	for i := 0; i < len(g.kinds); i++ {
		for _, r := range g.rules[g.kinds[i]] {
			for _, p := range r.goal {
				if p.variable {
					g.addKind(p.symbol)
				}
			}
		}
	}
}

func (g *grammar) addKind(kind int) {
	if _, again := g.number[kind]; !again {
		g.number[kind] = len(g.kinds)
		g.kinds = append(g.kinds, kind)
	}
}
