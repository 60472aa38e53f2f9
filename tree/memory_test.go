package tree

import (
	"reflect"
	"slices"
	"strings"
	"testing"

	"lemma/api"
)

// roomy gives a copy of a list with room behind it that is written on.
func roomy[T any](l []T, room T) []T {
	return slices.Concat(l, slices.Repeat([]T{room}, len(l)+3))[:len(l)]
}

// whole gives a list with the room behind it.
func whole[T any](l []T) []T { return slices.Clone(l[:cap(l)]) }

// spoil writes over a list and the room behind it.
func spoil[T any](l []T, with T) {
	l = l[:cap(l)]
	for i := range l {
		l[i] = with
	}
}

var (
	spoiltHyp  = api.Hyp{Label: "spoilt", Floating: true, Var: -99}
	spoiltPair = api.Pair{A: -99, B: -98}
	spoiltWord = api.Token{Text: "spoilt"}
	spoiltCode = api.Code{N: -99}
	spoiltNode = api.Node{Label: "spoilt", Kids: []int{-99}}
)

// Hypotheses, contexts, proofs and nodes with room behind all their lists; all of that copied; all of that written over.

func roomyHyps(hyps []api.Hyp) []api.Hyp {
	all := roomy(hyps, spoiltHyp)
	for i := range all {
		all[i].Expr = roomy(all[i].Expr, -77)
	}
	return all
}

func wholeHyps(hyps []api.Hyp) []api.Hyp {
	all := whole(hyps)
	for i := range all {
		all[i].Expr = whole(all[i].Expr)
	}
	return all
}

func spoilHyps(hyps []api.Hyp) {
	for _, h := range hyps {
		spoil(h.Expr, -99)
	}
	spoil(hyps, spoiltHyp)
}

func roomyContext(c api.Context) api.Context {
	return api.Context{Hyps: roomyHyps(c.Hyps), Pairs: roomy(c.Pairs, spoiltPair), Mandatory: roomyHyps(c.Mandatory), Before: c.Before, Goal: roomy(c.Goal, -77)}
}

func wholeContext(c api.Context) api.Context {
	return api.Context{Hyps: wholeHyps(c.Hyps), Pairs: whole(c.Pairs), Mandatory: wholeHyps(c.Mandatory), Before: c.Before, Goal: whole(c.Goal)}
}

func spoilContext(c api.Context) {
	spoilHyps(c.Hyps)
	spoilHyps(c.Mandatory)
	spoil(c.Pairs, spoiltPair)
	spoil(c.Goal, -99)
}

func roomyProof(p api.Proof) api.Proof {
	p.Labels, p.Codes = roomy(p.Labels, spoiltWord), roomy(p.Codes, spoiltCode)
	return p
}

func wholeProof(p api.Proof) api.Proof {
	p.Labels, p.Codes = whole(p.Labels), whole(p.Codes)
	return p
}

func roomyNodes(l []api.Node) []api.Node {
	all := roomy(l, spoiltNode)
	for i := range all {
		all[i].Kids = roomy(all[i].Kids, -77)
	}
	return all
}

func wholeNodes(l []api.Node) []api.Node {
	all := whole(l)
	for i := range all {
		all[i].Kids = whole(all[i].Kids)
	}
	return all
}

func spoilNodes(l []api.Node) {
	for _, node := range l {
		spoil(node.Kids, -99)
	}
	spoil(l, spoiltNode)
}

// tries are proofs that end at all sorts of places, in the context of t of the text many.
var tries = []string{
	"wx wy wi", "wx wy wi wz wi none dd wi", "none none dp", "wx", "wx wx dp", "wx wy", "", "no", "?", "wi", "wx hx wi",
	"( wi ) ABC", "( wi ) ABCZDC", "( wi wz ) AZBZCZEFCC", "( wi dp ) ABD", "( wi ) AZZ", "( wi ) AC", "( no ) A", "( wi wi ) A", "( wx", "( wi", "(", "( )",
	"( wi ) ?", "( wi ) AU", "( wi ) AaB", "( wi ) Z", "( none dd ) CZEDZFDZGDZHD", "( none dd ) CDDD", "( wi ) T",
}

// lists are lists of nodes, sound in that context or not.
var lists = []string{"wx; wy; wi 0 1; wi 2 2; wz", "none; dd 0; dd 1; wi 2 1", "wx; wx; wi 0 1; wi 1 0; wi 2 3", "wx", "wx; wi 0", "no; no 0; no 1 1", "wx 0", "wx; wy 7; wx", "", "none; none; dp 0 1; dp 2 2"}

// R11: what is handed in is not changed, the room behind its lists neither, which nobody looks at.
func TestHandedIn(t *testing.T) {
	b := loaded(t, many)
	plain := contextOf(t, b, "t")
	for _, words := range tries {
		c, p := roomyContext(plain), roomyProof(parsed(words))
		wasContext, wasProof := wholeContext(c), wholeProof(p)
		l, code := Of(b, c, p)
		if !reflect.DeepEqual(wholeContext(c), wasContext) || !reflect.DeepEqual(wholeProof(p), wasProof) {
			t.Errorf("R11: Of(%q) changed what was handed in", words)
		}
		want, wantCode := Of(b, plain, parsed(words))
		if text(l) != text(want) || code != wantCode {
			t.Errorf("R11: Of(%q) looked at the room behind lists: %q, %d", words, text(l), code)
		}
	}
	for _, words := range lists {
		c, l, other := roomyContext(plain), roomyNodes(nodes(words)), roomyNodes(nodes("wx; wx; wi 0 1"))
		wasContext, wasNodes, wasOther := wholeContext(c), wholeNodes(l), wholeNodes(other)
		proved, code := Conclude(b, c, l)
		got := toldBy(l)
		same := []bool{Same(l, other), Same(other, l), Same(l, l)}
		if !reflect.DeepEqual(wholeContext(c), wasContext) || !reflect.DeepEqual(wholeNodes(l), wasNodes) || !reflect.DeepEqual(wholeNodes(other), wasOther) {
			t.Errorf("R11: the calls about %q changed what was handed in", words)
		}
		want, wantCode := Conclude(b, plain, nodes(words))
		if !reflect.DeepEqual(proved, want) || code != wantCode || got != toldBy(nodes(words)) {
			t.Errorf("R11: the calls about %q looked at the room behind lists: %v, %d, %v", words, proved, code, got)
		}
		if is := Same(nodes(words), nodes("wx; wx; wi 0 1")); same[0] != is || same[1] != is || same[2] != (got.size > 0) {
			t.Errorf("R11: Same of %q looked at the room behind lists: %v", words, same)
		}
	}
}

// R11: what is handed in is not kept: written over, it changes no answer.
func TestNotKept(t *testing.T) {
	b := loaded(t, many)
	for _, words := range tries {
		c, p := roomyContext(contextOf(t, b, "t")), roomyProof(parsed(words))
		l, _ := Of(b, c, p)
		was := text(l)
		spoilContext(c)
		spoil(p.Labels, spoiltWord)
		spoil(p.Codes, spoiltCode)
		if text(l) != was {
			t.Errorf("R11: what Of(%q) answered hangs on what was handed in: %q", words, text(l))
		}
	}
	for _, words := range lists {
		c, l := roomyContext(contextOf(t, b, "t")), roomyNodes(nodes(words))
		proved, _ := Conclude(b, c, l)
		labels, _ := Labels(l)
		shared := Share(l)
		wasProved, wasLabels, wasShared := copied(proved), slices.Clone(labels), text(shared)
		spoilContext(c)
		spoilNodes(l)
		if !reflect.DeepEqual(proved, wasProved) || !slices.Equal(labels, wasLabels) || text(shared) != wasShared {
			t.Errorf("R11: what was answered of %q hangs on what was handed in: %v, %q, %q", words, proved, labels, text(shared))
		}
	}
}

// copied gives expressions with lists of their own.
func copied(l []api.Expr) []api.Expr {
	all := slices.Clone(l)
	for i := range all {
		all[i] = slices.Clone(all[i])
	}
	return all
}

// apart holds lists to share no memory, their room neither: each is written over with a number of its own.
func apart(t *testing.T, what string, all ...[]int) {
	t.Helper()
	for i, l := range all {
		spoil(l, 1000+i)
	}
	for i, l := range all {
		if slices.ContainsFunc(l[:cap(l)], func(n int) bool { return n != 1000+i }) {
			t.Errorf("R11: %s: the list number %d shares memory with another", what, i)
		}
	}
}

func kidsOf(l []api.Node) [][]int {
	var all [][]int
	for _, node := range l {
		all = append(all, node.Kids)
	}
	return all
}

func exprsOf(hyps []api.Hyp) [][]int {
	var all [][]int
	for _, h := range hyps {
		all = append(all, h.Expr)
	}
	return all
}

// R11: no two lists of an answer share memory, nor those of two answers, nor with an argument.
func TestAnswersAreNew(t *testing.T) {
	b := loaded(t, many)
	for _, words := range tries {
		c, p := roomyContext(contextOf(t, b, "t")), parsed(words)
		first, _ := Of(b, c, p)
		second, _ := Of(b, c, p)
		apart(t, "Of "+words, slices.Concat(kidsOf(first), kidsOf(second), exprsOf(c.Hyps), exprsOf(c.Mandatory), [][]int{c.Goal})...)
		spoil(first, spoiltNode)
		again, _ := Of(b, contextOf(t, b, "t"), p)
		if len(again) != len(second) || slices.ContainsFunc(second, func(x api.Node) bool { return x.Label == "spoilt" }) {
			t.Errorf("R11: two answers of Of(%q) share memory", words)
		}
	}
	for _, words := range lists {
		c, l := roomyContext(contextOf(t, b, "t")), roomyNodes(nodes(words))
		first, _ := Conclude(b, c, l)
		second, _ := Conclude(b, c, l)
		shared, again := Share(l), Share(l)
		labels, _ := Labels(l)
		others, _ := Labels(l)
		apart(t, words, slices.Concat(first, second, kidsOf(shared), kidsOf(again), kidsOf(l), exprsOf(c.Hyps), exprsOf(c.Mandatory))...)
		spoil(first, nil)
		spoil(shared, spoiltNode)
		spoil(labels, "spoilt")
		if slices.ContainsFunc(again, func(x api.Node) bool { return x.Label == "spoilt" }) || slices.Contains(others, "spoilt") || slices.ContainsFunc(l, func(x api.Node) bool { return x.Label == "spoilt" }) || slices.ContainsFunc(second, func(e api.Expr) bool { return e == nil }) {
			t.Errorf("R11: answers about %q share memory", words)
		}
	}
	// A list that is shared already is copied all the same.
	l := nodes("wx; wy; wi 0 1; wi 2 2")
	shared := Share(l)
	apart(t, "Share of what is shared", slices.Concat(kidsOf(l), kidsOf(shared))...)
	spoil(shared, spoiltNode)
	if l[0].Label != "wx" || l[3].Label != "wi" {
		t.Error("R11: Share of what is shared hands out the list itself")
	}
}

// R11: many nodes of one hypothesis prove one expression, each in a list of its own.
func TestOneHypothesisManyTimes(t *testing.T) {
	b := loaded(t, chapter)
	c := contextOf(t, b, "t")
	proved, _ := Conclude(b, c, nodes(strings.Repeat("w; ", 20)+"ax 0; ax 0; ax 3"))
	if len(proved) != 23 {
		t.Fatalf("P13.2: %v", proved)
	}
	apart(t, "one hypothesis many times", proved...)
}

// A base is not changed by calls: its assertions are told as before.
func TestBaseStays(t *testing.T) {
	b, fresh := loaded(t, many), loaded(t, many)
	for _, words := range tries {
		l, _ := Of(b, contextOf(t, b, "t"), parsed(words))
		proved, _ := Conclude(b, contextOf(t, b, "t"), l)
		for _, e := range proved {
			spoil(e, -99)
		}
		spoilNodes(l)
	}
	for n := range fresh.Count() {
		got, _ := b.At(n)
		want, _ := fresh.At(n)
		if !reflect.DeepEqual(got, want) {
			t.Errorf("R11: calls made %v of the assertion %v", got, want)
		}
	}
}

// nil and empty lists mean the same.
func TestNilAndEmpty(t *testing.T) {
	b := loaded(t, many)
	empty := api.Context{Hyps: []api.Hyp{}, Pairs: []api.Pair{}, Mandatory: []api.Hyp{}, Goal: api.Expr{}, Before: 9}
	for _, c := range []api.Context{empty, {Before: 9}} {
		for _, form := range []int{api.FormPlain, api.FormPacked} {
			ofIs(t, b, c, api.Proof{Form: form}, "")
			ofIs(t, b, c, api.Proof{Form: form, Labels: []api.Token{}, Codes: []api.Code{}}, "")
		}
		ofIs(t, b, c, parsed("none"), "none")
		concluded(t, b, c, nil, "-")
		concluded(t, b, c, []api.Node{}, "-")
		concluded(t, b, c, []api.Node{{Label: "none", Kids: []int{}}}, "wff ( )")
	}
	if Same(nil, []api.Node{}) || len(Share([]api.Node{})) != 0 || Size(nil) != 0 || Depth([]api.Node{}) != 0 {
		t.Error("R11: no nodes")
	}
	for _, kids := range [][]int{nil, {}} {
		l := []api.Node{{Label: "a"}, {Label: "a", Kids: kids}, {Label: "b", Kids: []int{0, 1}}}
		if !Same(l, nodes("a; b 0 0")) || text(Share(l)) != "a; b 0 0" {
			t.Errorf("R11: a node with the kids %#v: %q", kids, text(Share(l)))
		}
	}
	for _, e := range []api.Expr{nil, {}} {
		c := api.Context{Hyps: []api.Hyp{{Label: "h", Expr: e}}}
		ofIs(t, b, c, parsed("h"), "h")
		concluded(t, b, c, nodes("h"), "")
	}
}

// R13: asked by many at a time, each call answers as one alone.
func TestManyAtATime(t *testing.T) {
	b := loaded(t, many)
	c := contextOf(t, b, "t")
	p := parsed("( wi wz none ) AZBZCZFGCCEC")
	l := nodes("wx; wx; wi 0 1; wi 1 0; wi 2 3")
	ask := func() string {
		made, _ := Of(b, c, p)
		proved, _ := Conclude(b, c, l)
		var words []string
		for _, e := range proved {
			words = append(words, b.Print(e))
		}
		return text(made) + strings.Join(words, ",") + text(Share(l))
	}
	want := ask()
	answers := make(chan string)
	for range 8 {
		go func() { answers <- ask() }()
	}
	for range 8 {
		if got := <-answers; got != want {
			t.Errorf("R13: %q, want %q", got, want)
		}
	}
}
