package stack

import (
	"reflect"
	"slices"
	"testing"
	"unsafe"

	"lemma/api"
)

// spoil writes over a list and the room behind it.
func spoil[T any](l []T, with T) {
	l = l[:cap(l)]
	for i := range l {
		l[i] = with
	}
}

// roomy gives a copy of a list with room behind it that is written on.
func roomy[T any](l []T, room T) []T {
	return slices.Concat(l, slices.Repeat([]T{room}, len(l)+3))[:len(l)]
}

// whole gives a list with the room behind it.
func whole[T any](l []T) []T { return slices.Clone(l[:cap(l)]) }

var (
	spoiltHyp  = api.Hyp{Label: "spoilt", Floating: true, Var: -99}
	spoiltPair = api.Pair{A: -99, B: -98}
	spoiltWord = api.Token{Text: "spoilt"}
)

// roomyHyps gives hypotheses with room behind the list and behind each expression.
func roomyHyps(hyps []api.Hyp) []api.Hyp {
	all := roomy(hyps, spoiltHyp)
	for i := range all {
		all[i].Expr = roomy(all[i].Expr, -77)
	}
	return all
}

func wholeHyps(hyps []api.Hyp) []api.Hyp {
	all := whole(hyps)
	for i := range all {
		all[i].Expr = whole(all[i].Expr)
	}
	return all
}

func spoilHyps(hyps []api.Hyp) {
	for _, h := range hyps {
		spoil(h.Expr, -99)
	}
	spoil(hyps, spoiltHyp)
}

// A context, or a frame, with room behind all its lists; all of that copied; all of that written over.

func roomyContext(c api.Context) api.Context {
	return api.Context{Hyps: roomyHyps(c.Hyps), Pairs: roomy(c.Pairs, spoiltPair), Mandatory: roomyHyps(c.Mandatory), Before: c.Before, Goal: roomy(c.Goal, -77)}
}

func wholeContext(c api.Context) api.Context {
	return api.Context{Hyps: wholeHyps(c.Hyps), Pairs: whole(c.Pairs), Mandatory: wholeHyps(c.Mandatory), Before: c.Before, Goal: whole(c.Goal)}
}

func spoilContext(c api.Context) {
	spoilHyps(c.Hyps)
	spoilHyps(c.Mandatory)
	spoil(c.Pairs, spoiltPair)
	spoil(c.Goal, -99)
}

func roomyFrame(f api.Frame) api.Frame {
	return api.Frame{Hyps: roomyHyps(f.Hyps), Pairs: roomy(f.Pairs, spoiltPair), Goal: roomy(f.Goal, -77)}
}

func wholeFrame(f api.Frame) api.Frame {
	return api.Frame{Hyps: wholeHyps(f.Hyps), Pairs: whole(f.Pairs), Goal: whole(f.Goal)}
}

func spoilFrame(f api.Frame) {
	spoilHyps(f.Hyps)
	spoil(f.Pairs, spoiltPair)
	spoil(f.Goal, -99)
}

// P11.9: a context, expressions and frames that are handed in are not changed, and may be written over behind the call.
func TestHandedIn(t *testing.T) {
	mp := declared(t, []api.Expr{list(100), list(101), list(2, 100), list(2, 100, 3, 101)}, list(100, 101), list(2, 101))
	c := roomyContext(api.Context{Pairs: []api.Pair{{A: 111, B: 110}, {A: 110, B: 110}}, Goal: list(2, 5, 111), Hyps: []api.Hyp{{Label: "h", Expr: list(4)}}, Mandatory: []api.Hyp{{Label: "h", Expr: list(4)}}, Before: 3})
	wasContext := wholeContext(c)
	m := New(c, from100)
	if !reflect.DeepEqual(wholeContext(c), wasContext) {
		t.Errorf("P11.9: New made %v of %v", wholeContext(c), wasContext)
	}
	spoilContext(c)
	for _, e := range []api.Expr{list(1, 110), list(1, 5, 111), list(2, 110), list(2, 110, 3, 5, 111)} {
		given := roomy(e, -77)
		was := whole(given)
		m.Push(given)
		if !slices.Equal(whole(given), was) {
			t.Errorf("P11.9: Push made %v of %v", whole(given), was)
		}
		spoil(given, -99)
	}
	f := roomyFrame(mp)
	wasFrame := wholeFrame(f)
	applied(t, "written over", m, f, api.OK)
	if !reflect.DeepEqual(wholeFrame(f), wasFrame) {
		t.Errorf("P11.9: Apply made %v of %v", wholeFrame(f), wasFrame)
	}
	spoilFrame(f)
	results(t, m, list(2, 5, 111))
	if code := m.End(); code != api.OK {
		t.Errorf("P11.9: the goal that was handed in is written over: %d", code)
	}
	constants := declared(t, nil, nil, list(6, 7))
	applied(t, "a goal without variables", m, constants, api.OK)
	spoilFrame(constants)
	results(t, m, list(6, 7))
	f = roomyFrame(mp)
	applied(t, "too few", m, f, api.ErrUnder)
	m.Push(list(1))
	m.Push(list(1))
	applied(t, "no such type", m, f, api.ErrKind)
	if !reflect.DeepEqual(wholeFrame(f), wasFrame) {
		t.Errorf("P11.9: Apply with an error made %v of %v", wholeFrame(f), wasFrame)
	}
}

// P11.9: what Top tells is a copy: written over, it changes nothing, and later calls do not change it.
func TestTold(t *testing.T) {
	m := with(t, nil, list(1, 7, 8), nil, list(1, 9))
	swap := declared(t, []api.Expr{list(100), list(101)}, nil, list(1, 101, 100))
	first, _ := m.Top()
	second, _ := m.Top()
	spoil(first, -99)
	if !slices.Equal(second, list(1, 9)) {
		t.Errorf("P11.9: two answers of Top share memory: %v", second)
	}
	_ = append(second, 77, 77)
	results(t, m, list(1, 9))
	applied(t, "an empty entry", m, swap, api.ErrKind)
	m.Push(list(1, 3))
	applied(t, "two entries", m, swap, api.OK)
	results(t, m, list(1, 3, 9))
	m.Push(list(4))
	if !slices.Equal(second, list(1, 9)) {
		t.Errorf("P11.9: later calls changed what was told: %v", second)
	}
	made, _ := m.Top()
	spoil(made, -99)
	results(t, m, list(4))
	m = with(t, nil, list(1, 7, 8), list(1, 9))
	applied(t, "two entries", m, swap, api.OK)
	made, _ = m.Top()
	spoil(made, -99)
	again, _ := m.Top()
	if !slices.Equal(again, list(1, 9, 7, 8)) || len(made) != len(again) {
		t.Errorf("P11.9: what Apply made is %v behind writing over what was told", again)
	}
}

// P11.3, P11.9: what is laid on the stack never reaches what was there: entries that an Apply has taken off are another's no more, and those below it stay.
func TestCutOff(t *testing.T) {
	m := with(t, nil, list(1, 5), list(1, 6), list(1, 7), list(1, 8))
	below, last, enough := m.cut(2)
	if !enough || len(below) != 2 || cap(below) != 2 || len(last) != 2 {
		t.Fatalf("the last two: %v, %v, %v", below, last, enough)
	}
	applied(t, "two", m, declared(t, []api.Expr{list(100), list(101)}, nil, list(2, 101, 100)), api.OK)
	if !slices.EqualFunc(last, []api.Expr{list(1, 7), list(1, 8)}, slices.Equal) {
		t.Errorf("P11.3: what was cut off became %v", last)
	}
	if !slices.EqualFunc(below, []api.Expr{list(1, 5), list(1, 6)}, slices.Equal) {
		t.Errorf("P11.3: what is below became %v", below)
	}
}

// P11.9: vars is kept: the function that New was given is asked by Apply.
func TestVarsIsKept(t *testing.T) {
	asked := map[int]bool{}
	m := New(api.Context{}, func(n int) bool {
		asked[n] = true
		return n == 110
	})
	m.Push(list(1, 110))
	m.Push(list(1, 111))
	f := declared(t, []api.Expr{list(100), list(101)}, list(100, 101), list(1, 100, 101))
	applied(t, "111 is no variable", m, f, api.OK)
	if !asked[110] || !asked[111] {
		t.Errorf("P11.9: vars was asked about %v", asked)
	}
}

// P11.9: what Step tells is new memory, and what it is given is not changed.
func TestStepMemory(t *testing.T) {
	b := loaded(t, chapter)
	c := roomyContext(contextOf(t, b, "t"))
	c.Hyps = append(c.Hyps, api.Hyp{Label: "h", Expr: roomy(nil, -77)})
	was := wholeContext(c)
	for _, label := range []string{"wx", "wz", "h", "mp", "dp", "none", "t", "min", "no"} {
		h, a, asserted, code := Step(b, c, label)
		h2, a2, _, _ := Step(b, c, label)
		want := wholeHyps([]api.Hyp{h2})[0]
		spoil(h.Expr, -99)
		spoilFrame(a.Frame)
		spoilHyps(a.Scope.Hyps)
		spoil(a.Scope.Pairs, spoiltPair)
		spoil(a.Proof, spoiltWord)
		if !sameHyp(h2, want) {
			t.Errorf("P11.9: Step(%q): two answers share memory: %v", label, h2)
		}
		h3, a3, asserted3, code3 := Step(b, c, label)
		if !sameHyp(h3, want) || !reflect.DeepEqual(a3, a2) || asserted3 != asserted || code3 != code {
			t.Errorf("P11.9: Step(%q) told once more: %v, %v, %v, %d", label, h3, a3, asserted3, code3)
		}
	}
	if !reflect.DeepEqual(wholeContext(c), was) {
		t.Errorf("P11.9: Step made %v of %v", wholeContext(c), was)
	}
	h, _, _, _ := Step(b, c, "h")
	if len(h.Expr) != 0 || unsafe.SliceData(h.Expr) == unsafe.SliceData(c.Hyps[len(c.Hyps)-1].Expr) {
		t.Error("P11.9: an empty expression that is told lies in the context")
	}
}

// P11.9: what Run is given is not changed.
func TestRunMemory(t *testing.T) {
	b := loaded(t, chapter)
	for _, words := range [][]string{nil, {"wx", "wy", "wi"}, {"wx", "wy", "wi", "wx", "dp"}, {"wx", "no"}, {"wx", "?"}, {"wx", "wx", "wx", "wi", "wi"}} {
		c := roomyContext(contextOf(t, b, "t"))
		p := plain(words...)
		p.Labels = roomy(p.Labels, spoiltWord)
		p.Codes = roomy([]api.Code{{N: 3}}, api.Code{N: -99})
		wasContext, wasLabels, wasCodes := wholeContext(c), whole(p.Labels), whole(p.Codes)
		v := Run(b, c, p)
		if !reflect.DeepEqual(wholeContext(c), wasContext) || !slices.Equal(whole(p.Labels), wasLabels) || !slices.Equal(whole(p.Codes), wasCodes) {
			t.Errorf("P11.9: Run of %v changed what it was given", words)
		}
		if want := Run(b, contextOf(t, b, "t"), plain(words...)); v != want {
			t.Errorf("P11.9: Run of %v looked at the room behind lists: %v, want %v", words, v, want)
		}
	}
}

// R13: asked by many at a time, each run has its own machine.
func TestManyRuns(t *testing.T) {
	b := loaded(t, chapter)
	c := contextOf(t, b, "t")
	verdicts := make(chan api.Verdict)
	for range 8 {
		go func() { verdicts <- Run(b, c, plain("wx", "wx", "wy", "wi", "wi", "none", "dp")) }()
	}
	want := Run(b, c, plain("wx", "wx", "wy", "wi", "wi", "none", "dp"))
	for range 8 {
		if v := <-verdicts; v != want {
			t.Errorf("R13: %v, want %v", v, want)
		}
	}
}
