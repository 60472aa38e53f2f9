package base

import (
	"slices"

	"lemma/api"
	"lemma/expr"
)

// assertion is what a base keeps of one. Hypotheses are kept once in the base, and here by their places there: all assertions of a scope have the same ones.
type assertion struct {
	label   api.Token
	theorem bool
	goal    api.Expr
	needed  []int      // the mandatory hypotheses
	apart   []api.Pair // the mandatory pairs
	active  []int      // all active hypotheses
	pairs   []api.Pair // all active pairs
	proof   []api.Token
	end     api.Token
}

// placesOf gives the places of hypotheses in the base.
func (b *Base) placesOf(hyps []api.Hyp) []int {
	places := make([]int, 0, len(hyps))
	for _, h := range hyps {
		places = append(places, b.hypAt[h.Label])
	}
	return places
}

// hypsAt gives copies of the hypotheses at these places.
func (b *Base) hypsAt(places []int) []api.Hyp {
	hyps := make([]api.Hyp, 0, len(places))
	for _, n := range places {
		hyps = append(hyps, copied(b.hyps[n]))
	}
	return hyps
}

func (b *Base) frameOf(a assertion) api.Frame {
	return api.Frame{Hyps: b.hypsAt(a.needed), Pairs: slices.Clone(a.apart), Goal: slices.Clone(a.goal)}
}

func (b *Base) scopeOf(a assertion) api.Scope {
	return api.Scope{Hyps: b.hypsAt(a.active), Pairs: slices.Clone(a.pairs)}
}

// mandatory gives copies of the hypotheses that a goal needs, of those that are active where it stands.
func (b *Base) mandatory(active []api.Hyp, goal api.Expr) []api.Hyp {
	symbols := slices.Clone(goal)
	for _, h := range active {
		if !h.Floating {
			symbols = append(symbols, h.Expr...)
		}
	}
	variables := expr.Vars(symbols, b.IsVar)
	var needed []api.Hyp
	for _, h := range active {
		if _, stands := slices.BinarySearch(variables, h.Var); stands || !h.Floating {
			needed = append(needed, copied(h))
		}
	}
	return needed
}

// copied gives a hypothesis whose list is its own.
func copied(h api.Hyp) api.Hyp {
	h.Expr = slices.Clone(h.Expr)
	return h
}
