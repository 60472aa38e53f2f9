// Package infer: the one inference there is (R7.3), held against expressions that lie on a stack or are proved by a tree's parts. It knows no limit to how many these are: that is a stack's matter.
package infer

import (
	"lemma/api"
	"lemma/dist"
	"lemma/expr"
	"lemma/subst"
)

// Apply holds expressions, as many as the frame has hypotheses, against these hypotheses one by one, and gives what the frame makes of them: its goal with the variables put in. have are the pairs of the context; vars tells which symbols are variables.
func Apply(f api.Frame, parts []api.Expr, have []api.Pair, vars func(int) bool) (api.Expr, api.Errno) {
	s, code := read(f.Hyps, parts)
	if code != api.OK {
		return nil, code
	}
	if !hold(f.Hyps, parts, s) {
		return nil, api.ErrHyp
	}
	if breaks(f.Pairs, s, have, vars) {
		return nil, api.ErrApart
	}
	return s.Apply(f.Goal)
}

// read takes off the parts what stands for the variables of the floating hypotheses.
func read(hyps []api.Hyp, parts []api.Expr) (subst.Subst, api.Errno) {
	var binds []api.Bind
	for i, h := range hyps {
		if !h.Floating {
			continue
		}
		part := parts[i]
		if len(part) == 0 || part[0] != h.Expr[0] {
			return subst.Subst{}, api.ErrKind
		}
		binds = append(binds, api.Bind{Var: h.Var, Expr: part[1:]})
	}
	return subst.New(binds)
}

// hold tells whether the essential hypotheses, with the variables put in, are their parts.
func hold(hyps []api.Hyp, parts []api.Expr, s subst.Subst) bool {
	for i, h := range hyps {
		if !h.Floating && !becomes(h.Expr, s, parts[i]) {
			return false
		}
	}
	return true
}

// becomes tells whether e, with the variables put in, is the whole. The whole is used up string by string: it may be of any length, so nothing is made to be held against it.
func becomes(e api.Expr, s subst.Subst, whole api.Expr) bool {
	for i, x := range e {
		put, bound := s.Of(x)
		if !bound {
			put = e[i : i+1]
		}
		n := len(put)
		if n > len(whole) || !expr.Equal(whole[:n], put) {
			return false
		}
		whole = whole[n:]
	}
	return len(whole) == 0
}

// breaks tells whether strings break one of the pairs. Breach goes over all pairs of the context, for which frames that have none, the most of them, need not wait.
func breaks(pairs []api.Pair, s subst.Subst, have []api.Pair, vars func(int) bool) bool {
	if len(pairs) == 0 {
		return false
	}
	_, broken := dist.Breach(pairs, s, vars, have)
	return broken
}
