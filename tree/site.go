package tree

import (
	"lemma/api"
	"lemma/base"
	"lemma/dist"
	"lemma/infer"
	"lemma/stack"
)

// site is where derivations are made: what labels stand for there, and which pairs are had.
type site struct {
	b      *base.Base
	before int
	pairs  []api.Pair
	steps  map[string]step // by label: the context's hypotheses, and the assertions that were met
}

// step is what a label stands for: a hypothesis's expression, or an assertion's frame. It is for looking at alone: the expression is the context's own.
type step struct {
	asserted bool
	e        api.Expr
	f        api.Frame
}

// takes tells how many parts a node has whose label stands for this.
func (w step) takes() int { return len(w.f.Hyps) }

func siteOf(b *base.Base, c api.Context) site {
	steps := make(map[string]step, len(c.Hyps))
	for _, h := range c.Hyps {
		if _, taken := steps[h.Label]; !taken {
			steps[h.Label] = step{e: h.Expr}
		}
	}
	return site{b, c.Before, dist.Norm(c.Pairs), steps}
}

// find tells what a label stands for; false: for nothing that may be used here.
func (s site) find(label string) (step, bool) {
	if what, met := s.steps[label]; met {
		return what, true
	}
	// All hypotheses that count have been met: what is left are assertions.
	_, a, asserted, code := stack.Step(s.b, api.Context{Before: s.before}, label)
	if code != api.OK || !asserted {
		return step{}, false
	}
	what := step{asserted: true, f: a.Frame}
	s.steps[label] = what
	return what, true
}

// prove tells what a node proves whose label stands for this and whose parts prove these; false: there is no such node.
func (s site) prove(what step, parts []api.Expr) (api.Expr, bool) {
	if len(parts) != what.takes() {
		return nil, false
	}
	if !what.asserted {
		return what.e, true
	}
	made, code := infer.Apply(what.f, parts, s.pairs, s.b.IsVar)
	return made, code == api.OK
}
