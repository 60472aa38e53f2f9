package pack

import (
	"reflect"
	"slices"
	"strings"
	"testing"

	"lemma/api"
	"lemma/proof"
	"lemma/stack"
)

// roomy gives a copy of a list with room behind it that is written on.
func roomy[T any](l []T, room T) []T {
	return slices.Concat(l, slices.Repeat([]T{room}, len(l)+3))[:len(l)]
}

// whole gives a list with the room behind it.
func whole[T any](l []T) []T { return slices.Clone(l[:cap(l)]) }

// roomyHyps gives hypotheses with room behind the list and behind each expression.
func roomyHyps(hyps []api.Hyp) []api.Hyp {
	all := roomy(hyps, api.Hyp{Label: "spoilt", Floating: true, Var: -99})
	for i := range all {
		all[i].Expr = roomy(all[i].Expr, -77)
	}
	return all
}

func wholeHyps(hyps []api.Hyp) []api.Hyp {
	all := whole(hyps)
	for i := range all {
		all[i].Expr = whole(all[i].Expr)
	}
	return all
}

// A context, or a proof, with room behind all its lists; all of that copied.

func roomyContext(c api.Context) api.Context {
	return api.Context{Hyps: roomyHyps(c.Hyps), Pairs: roomy(c.Pairs, api.Pair{A: -99, B: -98}), Mandatory: roomyHyps(c.Mandatory), Before: c.Before, Goal: roomy(c.Goal, -77)}
}

func wholeContext(c api.Context) api.Context {
	return api.Context{Hyps: wholeHyps(c.Hyps), Pairs: whole(c.Pairs), Mandatory: wholeHyps(c.Mandatory), Before: c.Before, Goal: whole(c.Goal)}
}

func roomyProof(p api.Proof) api.Proof {
	p.Labels = roomy(p.Labels, api.Token{Text: "spoilt"})
	p.Codes = roomy(p.Codes, api.Code{N: -99})
	return p
}

func wholeProof(p api.Proof) api.Proof {
	p.Labels, p.Codes = whole(p.Labels), whole(p.Codes)
	return p
}

// tries are proofs that end at all sorts of places, in the context of t of the text many.
var tries = []string{
	"( wi ) ABC", "( wi ) ABCZDC", "( wi wz ) AZBZCZEFC", "( wi dp ) ABD", "( wi ) AZZ", "( wi ) AC", "( no ) A", "( wi wi ) A", "( wx", "( wi", "(", "( )",
	"( wi ) ?", "( wi ) AU", "( wi ) AaB", "( wi ) Z", "( none dd ) CZEDZFDZGDZHD", "( wi ) T", "( wz ) AZCDCDCDCDCDCD", "wx wy wi", "",
}

// P12.5: a context and a proof that are handed in are not changed, the room behind their lists neither, which nobody looks at.
func TestHandedIn(t *testing.T) {
	b := loaded(t, many)
	for _, words := range tries {
		c := roomyContext(contextOf(t, b, "t"))
		p := roomyProof(proof.Parse(placed(strings.Fields(words)...), behind))
		wasContext, wasProof := wholeContext(c), wholeProof(p)
		v := Run(b, c, p)
		names := Names(c, p)
		if !reflect.DeepEqual(wholeContext(c), wasContext) || !reflect.DeepEqual(wholeProof(p), wasProof) {
			t.Errorf("P12.5: the run of %q changed what was handed in", words)
		}
		p = proof.Parse(placed(strings.Fields(words)...), behind)
		if want := Run(b, contextOf(t, b, "t"), p); v != want {
			t.Errorf("P12.5: the run of %q looked at the room behind lists: %v, want %v", words, v, want)
		}
		if want := Names(contextOf(t, b, "t"), p); !slices.Equal(names, want) {
			t.Errorf("P12.5: the names of %q with room behind lists: %q, want %q", words, names, want)
		}
	}
}

// P12.5: a base is not changed by runs: its assertions are told as before.
func TestBaseStays(t *testing.T) {
	b, fresh := loaded(t, many), loaded(t, many)
	for _, words := range tries {
		Run(b, contextOf(t, b, "t"), proof.Parse(placed(strings.Fields(words)...), behind))
	}
	for n := range fresh.Count() {
		got, _ := b.At(n)
		want, _ := fresh.At(n)
		if !reflect.DeepEqual(got, want) {
			t.Errorf("P12.5: runs made %v of the assertion %v", got, want)
		}
	}
}

// R11: names are new memory: written over, they change neither what was handed in nor other answers.
func TestNamesAreNew(t *testing.T) {
	b := loaded(t, many)
	c := contextOf(t, b, "t")
	p := proof.Parse(placed("(", "wi", "wz", ")", "A"), behind)
	first, second := Names(c, p), Names(c, p)
	for i := range first[:cap(first)] {
		first[:cap(first)][i] = "spoilt"
	}
	want := []string{"wx", "wy", "wi", "wz"}
	if !slices.Equal(second, want) || !slices.Equal(Names(c, p), want) || p.Labels[0].Text != "wi" || c.Mandatory[0].Label != "wx" {
		t.Errorf("R11: names written over: %q, then %q, of %v", second, Names(c, p), p)
	}
}

// nil and empty lists mean the same.
func TestNilAndEmpty(t *testing.T) {
	b := loaded(t, many)
	empty := api.Context{Hyps: []api.Hyp{}, Pairs: []api.Pair{}, Mandatory: []api.Hyp{}, Goal: api.Expr{}, Before: 9}
	for _, codes := range [][]int{{}, {0}, {0, 1}, {api.CodeSave}} {
		p := api.Proof{Form: api.FormPacked, Codes: coded(codes...), End: behind}
		q := p
		q.Labels = []api.Token{}
		if len(codes) == 0 {
			q.Codes = []api.Code{}
		}
		if v, w := Run(b, api.Context{Before: 9}, p), Run(b, empty, q); v != w {
			t.Errorf("R11: the codes %v with nil lists: %v, with empty ones: %v", codes, v, w)
		}
	}
	empty.Hyps = []api.Hyp{{Label: "h"}}
	for _, expr := range []api.Expr{nil, {}} {
		for _, goal := range []api.Expr{nil, {}} {
			empty.Mandatory, empty.Goal = []api.Hyp{{Label: "m", Expr: expr}}, goal
			runs(t, b, empty, "( h ) A", api.OK, 0, 0, 1)
			runs(t, b, empty, "( h ) AZ", api.OK, 0, 0, 1)
			runs(t, b, empty, "( h ) BZ", api.OK, 0, 0, 1)
			runs(t, b, empty, "( h ) BZCZ", api.ErrLeft, -1, 0, 2)
		}
	}
}

// R13: asked by many at a time, each run has its own machine and its own saved entries.
func TestManyRuns(t *testing.T) {
	b := loaded(t, many)
	c := contextOf(t, b, "t")
	p := proof.Parse(placed("(", "wi", "none", "dp", ")", "ABCZDZFECGG"), behind)
	verdicts := make(chan api.Verdict)
	for range 8 {
		go func() { verdicts <- Run(b, c, p) }()
	}
	want := follow(b, c, p)
	for range 8 {
		if v := <-verdicts; v != want {
			t.Errorf("R13: %v, want %v", v, want)
		}
	}
}

// P12.1: what is told as Count is what the machine counts, along a run and at its fault.
func TestCountIsTheMachines(t *testing.T) {
	b := loaded(t, growing)
	c := contextOf(t, b, "t")
	g := rule(7)
	for range 100 {
		p := api.Proof{Form: api.FormPacked, Labels: placed("dbl", "wx", "wy", "wa", "cat", "px", "both", "far", "wz"), End: behind}
		p.Codes = g.grow(b, c, p)
		means, _, _ := listed(b, c, p.Labels)
		r := &run{machine: stack.New(c, b.IsVar), means: means}
		for i, told := range p.Codes {
			code := r.do(i, told.N)
			if v := r.verdict(code, told.At); v.Count != r.machine.Count() || v.Peak != r.machine.Peak() {
				t.Fatalf("P12.1: at the code number %d of %v: %v, the machine has %d and %d", i, p.Codes, v, r.machine.Count(), r.machine.Peak())
			}
		}
	}
}
