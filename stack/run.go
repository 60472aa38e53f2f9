package stack

import (
	"slices"

	"lemma/api"
	"lemma/base"
)

// open is the word of a step that is left open.
const open = "?"

// Step tells what a label stands for in a context: a hypothesis, or an assertion.
func Step(b *base.Base, c api.Context, label string) (api.Hyp, api.Assertion, bool, api.Errno) {
	for _, h := range c.Hyps {
		if h.Label == label {
			h.Expr = slices.Clone(h.Expr)
			return h, api.Assertion{}, false, api.OK
		}
	}
	n, asserted := b.Find(label)
	if !asserted {
		return api.Hyp{}, api.Assertion{}, false, noStep(b, label)
	}
	if n >= c.Before {
		return api.Hyp{}, api.Assertion{}, false, api.ErrLater
	}
	a, code := b.At(n)
	return api.Hyp{}, a, code == api.OK, code
}

// noStep tells why a label that is neither a hypothesis of the context nor an assertion is no step.
func noStep(b *base.Base, label string) api.Errno {
	if _, hidden := b.Hyp(label); hidden {
		return api.ErrHidden
	}
	return api.ErrUnknown
}

// Run runs a plain proof.
func Run(b *base.Base, c api.Context, p api.Proof) api.Verdict {
	m := New(c, b.IsVar)
	k := known{b, c, map[string]step{}}
	for i, label := range p.Labels {
		if code := k.do(i, label.Text, m.Push, m.Apply); code != api.OK {
			return m.verdict(code, label)
		}
	}
	if code := m.End(); code != api.OK {
		return m.verdict(code, p.End)
	}
	return m.verdict(api.OK, api.Token{})
}

// verdict is what is told of a run that ends here.
func (m *Machine) verdict(code api.Errno, at api.Token) api.Verdict {
	return api.Verdict{Code: code, At: at, Count: m.Count(), Peak: m.Peak()}
}

// step is what a label stands for: a hypothesis's expression, or an assertion's frame.
type step struct {
	asserted bool
	e        api.Expr
	f        api.Frame
}

// known are the steps that a run has met. Step copies all that is to be told of an assertion, its scope and its proof too, which is too much to be done at every label.
type known struct {
	b     *base.Base
	c     api.Context
	steps map[string]step
}

// do does what the label number i of a proof asks for, on a machine of which it has but the two calls.
func (k known) do(i int, label string, push func(api.Expr) api.Errno, apply func(api.Frame) api.Errno) api.Errno {
	if i >= api.MaxProof {
		return api.ErrSteps
	}
	if label == open {
		return api.ErrMissing
	}
	s, code := k.step(label)
	if code != api.OK {
		return code
	}
	if s.asserted {
		return apply(s.f)
	}
	return push(s.e)
}

// step looks a label up, if it was not met before.
func (k known) step(label string) (step, api.Errno) {
	if s, met := k.steps[label]; met {
		return s, api.OK
	}
	h, a, asserted, code := Step(k.b, k.c, label)
	if code != api.OK {
		return step{}, code
	}
	s := step{asserted, h.Expr, a.Frame}
	k.steps[label] = s
	return s, api.OK
}
