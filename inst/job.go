package inst

import (
	"slices"
	"strconv"

	"lemma/api"
	"lemma/base"
	"lemma/dist"
	"lemma/stack"
	"lemma/subst"
	"lemma/verify"
)

// job is what an order's labels mean.
type job struct {
	b       *base.Base
	theorem api.Assertion
	target  api.Assertion
}

// filling is what stands for one of the theorem's variables, and the proof of its type.
type filling struct {
	bind  api.Bind
	proof []string
}

// jobOf looks an order's theorem and target up.
func jobOf(b *base.Base, o api.Order) (job, error) {
	n, found := b.Find(o.Theorem)
	if !found {
		return job{}, refusal{Code: api.ErrNone}
	}
	verdict, code := verify.Theorem(b, n)
	if code != api.OK {
		return job{}, refusal{Code: code}
	}
	if verdict.Code != api.OK {
		return job{}, refusal{Code: api.ErrUnproved}
	}
	at, found := b.Find(o.Target)
	if !found {
		return job{}, refusal{Code: api.ErrTarget}
	}
	theorem, _ := b.At(n)
	target, _ := b.At(at)
	return job{b: b, theorem: theorem, target: target}, nil
}

// fillings gives what stands for the theorem's variables, in their order.
func (j job) fillings(given []api.Given) ([]filling, error) {
	var all []filling
	for _, h := range j.theorem.Frame.Hyps {
		if !h.Floating {
			continue
		}
		fill, accepted := j.filling(h, given)
		if !accepted {
			return nil, refusal{Code: api.ErrSyntax, Var: j.b.Name(h.Var)}
		}
		all = append(all, fill)
	}
	return all, nil
}

// filling gives what stands for the variable of a floating hypothesis, if the proof of its type is accepted.
func (j job) filling(h api.Hyp, given []api.Given) (filling, bool) {
	name := j.b.Name(h.Var)
	first := slices.IndexFunc(given, func(g api.Given) bool { return g.Var == name })
	if first < 0 {
		return filling{}, false
	}
	text, code := j.b.Read(given[first].Words)
	if code != api.OK || len(text) > api.MaxExpr-1 {
		return filling{}, false
	}
	c, _ := j.b.Behind(j.target.Number, slices.Concat(h.Expr[:1], text))
	labels := given[first].Proof
	verdict := stack.Run(j.b, c, api.Proof{Form: api.FormPlain, Labels: verify.Words(labels)})
	if verdict.Code != api.OK {
		return filling{}, false
	}
	return filling{bind: api.Bind{Var: h.Var, Expr: text}, proof: labels}, true
}

// substitution puts the fillings together, if no pair of the theorem is broken where the target's are had.
func (j job) substitution(fills []filling) (subst.Subst, error) {
	var binds []api.Bind
	for _, fill := range fills {
		binds = append(binds, fill.bind)
	}
	put, _ := subst.New(binds) // a variable has one mandatory floating hypothesis
	pair, broken := dist.Breach(j.theorem.Frame.Pairs, put, j.b.IsVar, j.target.Scope.Pairs)
	if broken {
		return subst.Subst{}, refusal{Code: api.ErrDistinct, Pair: [2]string{j.b.Name(pair.A), j.b.Name(pair.B)}}
	}
	return put, nil
}

// freshLabels gives a function that answers, call by call, the labels of new hypotheses; those that the base has are passed over.
func freshLabels(b *base.Base) func() string {
	n := 0
	return func() string {
		for {
			n++
			if label := "inst." + strconv.Itoa(n); !b.Taken(label) {
				return label
			}
		}
	}
}
