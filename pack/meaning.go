package pack

import (
	"lemma/api"
	"lemma/base"
	"lemma/stack"
)

// meaning is what a number means: a step on a machine.
type meaning interface {
	step(m *stack.Machine) api.Errno
}

// entry is laid on the stack: a hypothesis's expression, or a saved one.
type entry api.Expr

func (e entry) step(m *stack.Machine) api.Errno { return m.Push(api.Expr(e)) }

// assertion is applied to what lies on the stack. Its frame is all of it that a run needs.
type assertion api.Frame

func (a assertion) step(m *stack.Machine) api.Errno { return m.Apply(api.Frame(a)) }

// listed gives what numbers mean ahead of the first save: the mandatory hypotheses, then the words in the brackets. With an error it tells the word that offends.
func listed(b *base.Base, c api.Context, words []api.Token) ([]meaning, api.Token, api.Errno) {
	means := make([]meaning, 0, len(c.Mandatory)+len(words))
	taken := map[string]struct{}{}
	for _, h := range c.Mandatory {
		means = append(means, entry(h.Expr))
		taken[h.Label] = struct{}{}
	}
	for _, word := range words {
		what, code := meant(b, c, word.Text)
		if code != api.OK {
			return nil, word, code
		}
		if _, twice := taken[word.Text]; twice {
			return nil, word, api.ErrList
		}
		means = append(means, what)
		taken[word.Text] = struct{}{}
	}
	return means, api.Token{}, api.OK
}

// meant is what a label in the brackets stands for.
func meant(b *base.Base, c api.Context, label string) (meaning, api.Errno) {
	h, a, asserted, code := stack.Step(b, c, label)
	if code != api.OK {
		return nil, code
	}
	if asserted {
		return assertion(a.Frame), api.OK
	}
	return entry(h.Expr), api.OK
}
