package stack

import (
	"lemma/api"
	"lemma/expr"
	"lemma/subst"
)

// read takes off the entries what stands for the variables of the floating hypotheses.
func read(hyps []api.Hyp, entries []api.Expr) (subst.Subst, api.Errno) {
	var binds []api.Bind
	for i, h := range hyps {
		if !h.Floating {
			continue
		}
		entry := entries[i]
		if len(entry) == 0 || entry[0] != h.Expr[0] {
			return subst.Subst{}, api.ErrKind
		}
		binds = append(binds, api.Bind{Var: h.Var, Expr: entry[1:]})
	}
	return subst.New(binds)
}

// hold tells whether the essential hypotheses, with the variables put in, are their entries.
func hold(hyps []api.Hyp, entries []api.Expr, s subst.Subst) bool {
	for i, h := range hyps {
		if !h.Floating && !becomes(h.Expr, s, entries[i]) {
			return false
		}
	}
	return true
}

// becomes tells whether e, with the variables put in, is the entry. The entry is used up part by part: entries may be of any length, so nothing is made to be held against them.
func becomes(e api.Expr, s subst.Subst, entry api.Expr) bool {
	for i, x := range e {
		part, bound := s.Of(x)
		if !bound {
			part = e[i : i+1]
		}
		n := len(part)
		if n > len(entry) || !expr.Equal(entry[:n], part) {
			return false
		}
		entry = entry[n:]
	}
	return len(entry) == 0
}
