package inst

import (
	"slices"

	"lemma/api"
	"lemma/base"
)

// Where is the context in which an instance's proof stands: the target's scope at the end of the base, widened by the instance's hypotheses.
func Where(b *base.Base, target string, i api.Instance) (api.Context, api.Errno) {
	n, found := b.Find(target)
	if !found {
		return api.Context{}, api.ErrTarget
	}
	c, _ := b.Behind(n, i.Goal)
	c.Hyps = append(c.Hyps, copied(i.Hyps)...)
	// The new hypotheses may ask for floating ones that the goal alone does not.
	c.Mandatory = copied(mandatory(c.Hyps, c.Goal))
	return c, api.OK
}

// mandatory picks the hypotheses that are essential, or the floating ones of a variable that stands in one of these or in the goal.
func mandatory(l []api.Hyp, goal api.Expr) []api.Hyp {
	needed := map[int]struct{}{}
	need := func(e api.Expr) {
		for _, symbol := range e {
			needed[symbol] = struct{}{}
		}
	}
	need(goal)
	for _, h := range l {
		if !h.Floating {
			need(h.Expr)
		}
	}
	var picked []api.Hyp
	for _, h := range l {
		if _, in := needed[h.Var]; in || !h.Floating {
			picked = append(picked, h)
		}
	}
	return picked
}

// copied gives hypotheses that share no list with those that are there.
func copied(l []api.Hyp) []api.Hyp {
	l = slices.Clone(l)
	for i := range l {
		l[i].Expr = slices.Clone(l[i].Expr)
	}
	return l
}
