package inst

import (
	"slices"
	"strings"

	"lemma/api"
	"lemma/base"
)

// rule makes numbers by a fixed rule, the same in every run.
type rule uint64

func (r *rule) below(n int) int {
	*r = *r*6364136223846793005 + 1442695040888963407
	return int(uint64(*r)>>33) % n
}

// one picks one of a list.
func one[T any](r *rule, l []T) T { return l[r.below(len(l))] }

// term is what the texts of these tests speak of: a variable, a pair of terms, or nothing at all.
type term struct {
	variable string
	left     *term
	right    *term
}

func (e *term) empty() bool { return e.variable == "" && e.left == nil }

func (e *term) text() string {
	switch {
	case e.empty():
		return ""
	case e.left == nil:
		return e.variable
	}
	return "( " + e.left.text() + " " + e.right.text() + " )"
}

// termOf reads the term with which some words begin, and gives the words behind it.
func termOf(words []string) (*term, []string) {
	if len(words) == 0 {
		return &term{}, nil
	}
	if words[0] != "(" {
		return &term{variable: words[0]}, words[1:]
	}
	left, words := termOf(words[1:])
	right, words := termOf(words)
	return &term{left: left, right: right}, words[1:]
}

// put gives a term with terms in the place of its variables.
func (e *term) put(of map[string]*term) *term {
	switch {
	case e.empty():
		return e
	case e.left == nil:
		return of[e.variable]
	}
	return &term{left: e.left.put(of), right: e.right.put(of)}
}

// matches tells whether terms in the place of a pattern's variables make it a term, and puts them to those that are there.
func (e *term) matches(other *term, of map[string]*term) bool {
	switch {
	case e.empty() || other.empty():
		return e.empty() && other.empty()
	case e.left != nil:
		return other.left != nil && e.left.matches(other.left, of) && e.right.matches(other.right, of)
	case of[e.variable] != nil:
		return of[e.variable].text() == other.text()
	}
	of[e.variable] = other
	return true
}

// prover makes proofs by a rule, where a context stands.
type prover struct {
	*rule
	b *base.Base
	c api.Context
}

// said gives the term of which an expression speaks.
func (p prover) said(e api.Expr) *term {
	said, _ := termOf(strings.Fields(p.b.Print(e))[1:])
	return said
}

// term makes a term of active variables.
func (p prover) term(deep int) *term {
	if deep > 0 && p.below(2) == 0 {
		return &term{left: p.term(deep - 1), right: p.term(deep - 1)}
	}
	return &term{variable: p.b.Name(one(p.rule, p.floating()).Var)}
}

func (p prover) floating() []api.Hyp {
	return slices.DeleteFunc(slices.Clone(p.c.Hyps), func(h api.Hyp) bool { return !h.Floating })
}

// formed gives the labels that prove that a term is one: now and then by an essential hypothesis that says so.
func (p prover) formed(e *term) []string {
	for _, h := range p.c.Hyps {
		if p.b.Name(h.Expr[0]) == "v" && p.said(h.Expr).text() == e.text() && (h.Floating || p.below(2) == 0) {
			return []string{h.Label}
		}
	}
	switch {
	case e.empty():
		return []string{"none"}
	case e.left == nil:
		return []string{"?"}
	}
	return append(slices.Concat(p.formed(e.left), p.formed(e.right)), "vi")
}

// proof gives the labels of a proof, one of many, of what is said of a term.
func (p prover) proof(e *term, deep int) []string {
	for _, h := range p.c.Hyps {
		if p.b.Name(h.Expr[0]) == "w" && p.said(h.Expr).text() == e.text() && p.below(2) == 0 {
			return []string{h.Label}
		}
	}
	var proofs [][]string
	for n := range p.c.Before {
		a, _ := p.b.At(n)
		of := map[string]*term{}
		if p.b.Name(a.Frame.Goal[0]) != "w" || !p.said(a.Frame.Goal).matches(e, of) || deep == 0 && len(a.Frame.Hyps) > 2 || p.below(3) > 0 {
			continue
		}
		proofs = append(proofs, p.cite(a, of, deep-1))
	}
	if len(proofs) > 0 {
		return one(p.rule, proofs)
	}
	if e.empty() {
		return []string{"g"}
	}
	return append(p.formed(e), "ax")
}

// cite gives the labels of an assertion's instance.
func (p prover) cite(a api.Assertion, of map[string]*term, deep int) []string {
	var labels []string
	for _, h := range a.Frame.Hyps {
		if v := p.b.Name(h.Var); h.Floating && of[v] == nil {
			of[v] = p.term(1)
		}
	}
	for _, h := range a.Frame.Hyps {
		switch {
		case h.Floating:
			labels = append(labels, p.formed(of[p.b.Name(h.Var)])...)
		case p.b.Name(h.Expr[0]) == "v":
			labels = append(labels, p.formed(p.said(h.Expr).put(of))...)
		default:
			labels = append(labels, p.proof(p.said(h.Expr).put(of), max(deep, 0))...)
		}
	}
	return append(labels, a.Label)
}
