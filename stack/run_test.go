package stack

import (
	"math"
	"reflect"
	"strings"
	"testing"

	"lemma/api"
	"lemma/base"
)

// behind is the token behind a proof.
var behind = api.Token{Text: "$.", At: api.Pos{Off: 99999, Line: 7, Col: 3}}

// plain gives a plain proof, each label at a place of its own.
func plain(words ...string) api.Proof {
	p := api.Proof{Form: api.FormPlain, End: behind}
	for i, w := range words {
		p.Labels = append(p.Labels, api.Token{Text: w, At: api.Pos{Off: 3 * i, Line: i + 1, Col: 1}})
	}
	return p
}

// contextOf gives where an assertion's proof stands.
func contextOf(t *testing.T, b *base.Base, label string) api.Context {
	t.Helper()
	n, found := b.Find(label)
	c, _ := b.Context(n)
	if !found {
		t.Fatalf("no assertion: %q", label)
	}
	return c
}

// runs holds the run of a proof against the verdict: at says which label it is at, below 0 the end.
func runs(t *testing.T, b *base.Base, c api.Context, words string, code api.Errno, at, count, peak int) {
	t.Helper()
	p := plain(strings.Fields(words)...)
	want := api.Verdict{Code: code, Count: count, Peak: peak}
	switch {
	case code == api.OK:
	case at < 0:
		want.At = p.End
	default:
		want.At = p.Labels[at]
	}
	if v := Run(b, c, p); v != want {
		t.Errorf("P11.7: Run of %.100q: %v, want %v", words, v, want)
	}
}

// P11.7: the chapter's examples, and each error at its label.
func TestRun(t *testing.T) {
	b := loaded(t, chapter)
	c := contextOf(t, b, "t")
	runs(t, b, c, "wx wy wi", api.OK, 0, 1, 2)
	runs(t, b, c, "wx wy", api.ErrLeft, -1, 0, 2)
	runs(t, b, c, "wx", api.ErrGoal, -1, 0, 1)
	runs(t, b, c, "wx ? wi", api.ErrMissing, 1, 0, 1)
	runs(t, b, c, "wx wi", api.ErrUnder, 1, 0, 1)
	runs(t, b, c, "", api.ErrLeft, -1, 0, 0)
	runs(t, b, c, "?", api.ErrMissing, 0, 0, 0)
	runs(t, b, c, "wx wy wi ?", api.ErrMissing, 3, 1, 2)
	runs(t, b, c, "? no", api.ErrMissing, 0, 0, 0)
	runs(t, b, c, "no ?", api.ErrUnknown, 0, 0, 0)
	runs(t, b, c, "wx wy wi min", api.ErrHidden, 3, 1, 2)
	runs(t, b, c, "wx wy t", api.ErrLater, 2, 0, 2)
	runs(t, b, c, "wx late", api.ErrLater, 1, 0, 1)
	runs(t, b, c, "wy wx wi", api.ErrGoal, -1, 1, 2)
	runs(t, b, c, "wx wy wz wi wi", api.ErrGoal, -1, 2, 3)
	runs(t, b, c, "none wx wi none wi", api.ErrGoal, -1, 4, 2)
	runs(t, b, c, "wx wy wx wy wi mp", api.ErrUnder, 5, 1, 4)
	runs(t, b, c, "wx wy wx wx wy wi mp", api.ErrHyp, 6, 1, 5)
	runs(t, b, c, "wx wy dp", api.ErrApart, 2, 0, 2)
	runs(t, b, c, "wx none dp", api.ErrGoal, -1, 2, 2)
	runs(t, b, c, "none none none dp wi", api.ErrGoal, -1, 5, 3)
	runs(t, b, contextOf(t, b, "mp"), "min wx wi", api.ErrKind, 2, 0, 2)
	runs(t, b, contextOf(t, b, "mp"), "wx maj wi", api.ErrKind, 2, 0, 2)
	runs(t, b, contextOf(t, b, "mp"), "wx wy min maj mp", api.ErrLater, 4, 0, 4)
	runs(t, b, contextOf(t, b, "dp"), "wx wy dp", api.ErrLater, 2, 0, 2)
	inside, _ := b.Behind(contextOf(t, b, "mp").Before, contextOf(t, b, "mp").Goal)
	runs(t, b, inside, "wx wy min maj mp", api.OK, 0, 1, 4)
	runs(t, b, inside, "wy wx maj min mp", api.ErrHyp, 4, 0, 4)
	inside, _ = b.Behind(contextOf(t, b, "dp").Before, contextOf(t, b, "dp").Goal)
	runs(t, b, inside, "wx wy dp", api.OK, 0, 1, 2)
	runs(t, b, inside, "wy wx dp", api.ErrGoal, -1, 1, 2)
	runs(t, b, inside, "wx wz dp", api.ErrApart, 2, 0, 2)
}

// P11.7: labels' deep and long faults: a full stack, and a result that is too long.
func TestRunLimits(t *testing.T) {
	b := loaded(t, "$c wff $. $v x $. wx $f wff x $. id $a wff x $. dd $a wff x x $. c0 $a wff $. c1 $a wff wff $. t $p wff x $= ? $.")
	c := contextOf(t, b, "t")
	runs(t, b, c, strings.Repeat("wx ", 40), api.ErrLeft, -1, 0, 40)
	runs(t, b, c, strings.Repeat("wx ", 41), api.ErrDeep, 40, 0, 40)
	runs(t, b, c, strings.Repeat("wx ", 40)+"c0", api.ErrDeep, 40, 0, 40)
	runs(t, b, c, strings.Repeat("wx ", 40)+"id", api.ErrLeft, -1, 1, 40)
	runs(t, b, c, strings.Repeat("c0 ", 41), api.ErrDeep, 40, 40, 40)
	runs(t, b, c, "c1"+strings.Repeat(" dd", 7), api.ErrGoal, -1, 8, 1)
	runs(t, b, c, "c1"+strings.Repeat(" dd", 8), api.ErrTooLong, 8, 8, 1)
	runs(t, b, c, "c0"+strings.Repeat(" dd", 200), api.ErrGoal, -1, 201, 1)
}

// P11.7: MaxProof labels, and one more, whatever it is.
func TestSteps(t *testing.T) {
	b := loaded(t, "$c wff $. $v x $. wx $f wff x $. id $a wff x $. t $p wff x $= wx $.")
	c := contextOf(t, b, "t")
	most := "wx" + strings.Repeat(" id", api.MaxProof-1)
	runs(t, b, c, most, api.OK, 0, 3999, 1)
	for _, more := range []string{"?", "id", "no", "t", "wx", "? ? ?", "no wx"} {
		runs(t, b, c, most+" "+more, api.ErrSteps, 4000, 3999, 1)
	}
	runs(t, b, c, most[:len(most)-2]+"?", api.ErrMissing, 3999, 3998, 1)
	runs(t, b, c, most[:len(most)-2]+"no", api.ErrUnknown, 3999, 3998, 1)
	runs(t, b, c, "?"+most, api.ErrUnknown, 0, 0, 0)
	runs(t, b, c, "no "+most+most, api.ErrUnknown, 0, 0, 0)
}

// P11.7: of a proof the labels and the end are looked at alone.
func TestRunOfOtherForms(t *testing.T) {
	b := loaded(t, chapter)
	c := contextOf(t, b, "t")
	for _, words := range []string{"wx wy wi", "wx wy", "wx", "? wx", "", "wx no"} {
		want := Run(b, c, plain(strings.Fields(words)...))
		for _, form := range []int{0, api.FormPlain, api.FormPacked, 99, -1} {
			for _, broken := range []bool{false, true} {
				p := plain(strings.Fields(words)...)
				p.Form, p.Broken, p.Cut = form, broken, !broken
				p.Codes = []api.Code{{N: 5}, {N: api.CodeBad, At: behind}}
				if v := Run(b, c, p); v != want {
					t.Errorf("P11.7: %q with the form %d: %v, want %v", words, form, v, want)
				}
			}
		}
	}
	if v := Run(b, c, api.Proof{}); v != (api.Verdict{Code: api.ErrLeft}) {
		t.Errorf("P11.7: the empty proof: %v", v)
	}
	other := api.Token{Text: "elsewhere", At: api.Pos{Off: -5}}
	if v := Run(b, c, api.Proof{End: other}); v != (api.Verdict{Code: api.ErrLeft, At: other}) {
		t.Errorf("P11.7: the empty proof with another end: %v", v)
	}
	p := plain("wx", "wy", "wi")
	p.End = other
	if v := Run(b, c, p); v != (api.Verdict{Count: 1, Peak: 2}) {
		t.Errorf("P11.7: a proof that is OK with another end: %v", v)
	}
}

// P11.7: Mandatory says nothing, and the goal may be any.
func TestRunInOddContexts(t *testing.T) {
	b := loaded(t, chapter)
	c := contextOf(t, b, "t")
	c.Mandatory = []api.Hyp{{Label: "wx", Expr: list(9)}, {Label: "m"}}
	runs(t, b, c, "wx wy wi", api.OK, 0, 1, 2)
	runs(t, b, c, "m", api.ErrUnknown, 0, 0, 0)
	c.Hyps = append(c.Hyps, api.Hyp{Label: "odd"}, api.Hyp{Label: "?", Expr: list(1)}, api.Hyp{Label: "odd", Expr: list(5)}, api.Hyp{Label: "long", Expr: times(300, -7)}, api.Hyp{Label: ""})
	c.Goal = nil
	runs(t, b, c, "odd", api.OK, 0, 0, 1)
	runs(t, b, c, "?", api.ErrMissing, 0, 0, 0)
	runs(t, b, c, "odd wx wi", api.ErrKind, 2, 0, 2)
	c.Goal = times(300, -7)
	runs(t, b, c, "long", api.OK, 0, 0, 1)
	if v := Run(b, c, plain("")); v.Code != api.ErrGoal {
		t.Errorf("P11.7: the label without a letter: %v", v)
	}
	runs(t, b, api.Context{}, "wx", api.ErrHidden, 0, 0, 0)
	runs(t, b, api.Context{}, "none", api.ErrLater, 0, 0, 0)
	runs(t, b, api.Context{Before: math.MaxInt, Goal: list(0, 3, 4)}, "none", api.OK, 0, 1, 1)
}

// stands holds what a label stands for against the hypothesis or the assertion of the base, whichever is meant.
func stands(t *testing.T, b *base.Base, c api.Context, label string, want api.Errno, wantHyp api.Hyp, asserted bool) {
	t.Helper()
	var wantAssertion api.Assertion
	if asserted {
		n, _ := b.Find(label)
		wantAssertion, _ = b.At(n)
	}
	h, a, is, code := Step(b, c, label)
	if code != want || is != asserted || !reflect.DeepEqual(a, wantAssertion) || !sameHyp(h, wantHyp) {
		t.Errorf("P11.6: Step(%q): %v, %v, %v, %d", label, h, a, is, code)
	}
}

func sameHyp(g, h api.Hyp) bool {
	return g.Label == h.Label && g.Floating == h.Floating && g.Var == h.Var && len(g.Expr) == len(h.Expr) && (len(g.Expr) == 0 || reflect.DeepEqual(g.Expr, h.Expr))
}

// P11.6: the chapter's examples; every label of a text, where each assertion stands.
func TestStep(t *testing.T) {
	b := loaded(t, chapter)
	labels := strings.Fields("wx wy wz min maj wi mp dp none t late no ? WX w wxx $. x wff -1")
	for n := range b.Count() {
		c, _ := b.Context(n)
		for _, label := range append(labels, "", "wi ", "wi\x00") {
			hyp, active := api.Hyp{}, false
			for _, h := range c.Hyps {
				if h.Label == label {
					hyp, active = h, true
				}
			}
			k, isAssertion := b.Find(label)
			_, isHyp := b.Hyp(label)
			switch {
			case active:
				stands(t, b, c, label, api.OK, hyp, false)
			case isAssertion && k < n:
				stands(t, b, c, label, api.OK, api.Hyp{}, true)
			case isAssertion:
				stands(t, b, c, label, api.ErrLater, api.Hyp{}, false)
			case isHyp:
				stands(t, b, c, label, api.ErrHidden, api.Hyp{}, false)
			default:
				stands(t, b, c, label, api.ErrUnknown, api.Hyp{}, false)
			}
		}
	}
	c := contextOf(t, b, "t")
	stands(t, b, c, "min", api.ErrHidden, api.Hyp{}, false)
	stands(t, b, c, "mp", api.OK, api.Hyp{}, true)
	stands(t, b, c, "t", api.ErrLater, api.Hyp{}, false)
	stands(t, b, c, "late", api.ErrLater, api.Hyp{}, false)
	stands(t, b, c, "?", api.ErrUnknown, api.Hyp{}, false)
	stands(t, b, contextOf(t, b, "mp"), "min", api.OK, api.Hyp{Label: "min", Var: -1, Expr: list(1, 5)}, false)
}

// P11.6: Before may be any number.
func TestStepBefore(t *testing.T) {
	b := loaded(t, chapter)
	for n := range b.Count() {
		a, _ := b.At(n)
		for before, want := range map[int]api.Errno{math.MinInt: api.ErrLater, -1: api.ErrLater, 0: api.ErrLater, n: api.ErrLater, n + 1: api.OK, n + 2: api.OK, 1000: api.OK, math.MaxInt: api.OK} {
			stands(t, b, api.Context{Before: before}, a.Label, want, api.Hyp{}, want == api.OK)
		}
	}
}

// P11.6: the context's hypotheses are looked at first, whatever the base knows; of two of one label the first counts.
func TestStepHypothesesFirst(t *testing.T) {
	b := loaded(t, chapter)
	c := api.Context{Before: 3}
	labels := []string{"wi", "late", "min", "wx", "new", "?", ""}
	for i, label := range labels {
		c.Hyps = append(c.Hyps, api.Hyp{Label: label, Floating: i%2 == 0, Var: 7 - i, Expr: times(i, i)})
	}
	for i, label := range labels {
		c.Hyps = append(c.Hyps, api.Hyp{Label: label, Floating: i%2 == 1, Var: 99, Expr: list(9, 9, 9)})
	}
	for i, label := range labels {
		stands(t, b, c, label, api.OK, c.Hyps[i], false)
	}
	stands(t, b, c, "mp", api.OK, api.Hyp{}, true)
	stands(t, b, c, "none", api.ErrLater, api.Hyp{}, false)
	stands(t, b, c, "maj", api.ErrHidden, api.Hyp{}, false)
	stands(t, b, c, "newer", api.ErrUnknown, api.Hyp{}, false)
	runs(t, b, c, "wi", api.OK, 0, 0, 1)
	runs(t, b, c, "late", api.ErrGoal, -1, 0, 1)
	c.Goal = list(4, 4, 4, 4)
	runs(t, b, c, "new", api.OK, 0, 0, 1)
}
