package frame

import (
	"slices"
	"strings"

	"lemma/api"
	"lemma/dist"
)

// scope is what was declared in a scope, or outside all: its methods are those of its two parts.
type scope struct {
	hyps
	pairs
}

func newScope() scope { return scope{hyps: hyps{types: map[int]int{}}} }

// hyps are the hypotheses of one scope.
type hyps struct {
	listed []api.Hyp   // in the order in which they were declared
	types  map[int]int // by variable: the types that the floating ones give
}

// pairs are the pairs of one scope that were not active ahead of being declared.
type pairs struct {
	parted []api.Pair
}

func (h *hyps) float(label string, typ, v int) {
	h.list(api.Hyp{Label: label, Floating: true, Var: v, Expr: api.Expr{typ, v}})
	h.types[v] = typ
}

func (h *hyps) ess(label string, e api.Expr) {
	h.list(api.Hyp{Label: label, Var: -1, Expr: slices.Clone(e)})
}

// list copies the label: it may be a piece of a long text, which would be kept with it.
func (h *hyps) list(one api.Hyp) {
	one.Label = strings.Clone(one.Label)
	h.listed = append(h.listed, one)
}

func (h *hyps) typeOf(v int) (int, bool) {
	typ, typed := h.types[v]
	return typ, typed
}

// tell lays copies of the hypotheses that are wanted behind those that were told.
func (h *hyps) tell(told []api.Hyp, wanted func(api.Hyp) bool) []api.Hyp {
	for _, one := range h.listed {
		if wanted(one) {
			one.Expr = slices.Clone(one.Expr)
			told = append(told, one)
		}
	}
	return told
}

// spell lays the symbols of the essential hypotheses behind some.
func (h *hyps) spell(symbols api.Expr) api.Expr {
	for _, one := range h.listed {
		if !one.Floating {
			symbols = append(symbols, one.Expr...)
		}
	}
	return symbols
}

// part declares pairs, of which none is active.
func (p *pairs) part(fresh []api.Pair) { p.parted = append(p.parted, fresh...) }

// apart tells whether a pair was declared here.
func (p *pairs) apart(q api.Pair) bool { return dist.Has(p.parted, q) }
