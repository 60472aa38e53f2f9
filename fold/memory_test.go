package fold

import (
	"reflect"
	"slices"
	"strings"
	"testing"

	"lemma/api"
	"lemma/base"
)

// roomy gives a copy of a list with room behind it that is written on.
func roomy[T any](l []T, room T) []T {
	return slices.Concat(l, slices.Repeat([]T{room}, len(l)+3))[:len(l)]
}

// whole gives a list with the room behind it.
func whole[T any](l []T) []T { return slices.Clone(l[:cap(l)]) }

// spoil writes over a list and the room behind it.
func spoil[T any](l []T, with T) {
	l = l[:cap(l)]
	for i := range l {
		l[i] = with
	}
}

var (
	spoiltHyp  = api.Hyp{Label: "spoilt", Floating: true, Var: -99}
	spoiltPair = api.Pair{A: -99, B: -98}
	spoiltNode = api.Node{Label: "spoilt", Kids: []int{-99}}
)

// Hypotheses, contexts and nodes with room behind all their lists; all of that copied; all of that written over.

func roomyHyps(hyps []api.Hyp) []api.Hyp {
	all := roomy(hyps, spoiltHyp)
	for i := range all {
		all[i].Expr = roomy(all[i].Expr, -77)
	}
	return all
}

func wholeHyps(hyps []api.Hyp) []api.Hyp {
	all := whole(hyps)
	for i := range all {
		all[i].Expr = whole(all[i].Expr)
	}
	return all
}

func spoilHyps(hyps []api.Hyp) {
	for _, h := range hyps {
		spoil(h.Expr, -99)
	}
	spoil(hyps, spoiltHyp)
}

func roomyContext(c api.Context) api.Context {
	return api.Context{Hyps: roomyHyps(c.Hyps), Pairs: roomy(c.Pairs, spoiltPair), Mandatory: roomyHyps(c.Mandatory), Before: c.Before, Goal: roomy(c.Goal, -77)}
}

func wholeContext(c api.Context) api.Context {
	return api.Context{Hyps: wholeHyps(c.Hyps), Pairs: whole(c.Pairs), Mandatory: wholeHyps(c.Mandatory), Before: c.Before, Goal: whole(c.Goal)}
}

func spoilContext(c api.Context) {
	spoilHyps(c.Hyps)
	spoilHyps(c.Mandatory)
	spoil(c.Pairs, spoiltPair)
	spoil(c.Goal, -99)
}

func roomyNodes(l []api.Node) []api.Node {
	all := roomy(l, spoiltNode)
	for i := range all {
		all[i].Kids = roomy(all[i].Kids, -77)
	}
	return all
}

func wholeNodes(l []api.Node) []api.Node {
	all := whole(l)
	for i := range all {
		all[i].Kids = whole(all[i].Kids)
	}
	return all
}

func spoilNodes(l []api.Node) {
	for _, node := range l {
		spoil(node.Kids, -99)
	}
	spoil(l, spoiltNode)
}

// lists are nodes of all sorts, derivations in the context of the chapter's t or not.
var lists = []string{"wp; wi 0 0; wi 1 1", "wp; wq; wi 0 1; wi 2 0; wi 2 3; wp", "wp; wi 0 0; wp; wi 2 2; wi 1 3", "wp", "a; f 0; g 1 1; h 2 1 2", "wp 0", "wp; wi 7; wp", "", "a; wp 0; a 1 1"}

// tries are plain proofs that end at all sorts of places there.
var tries = []string{"wp wp wi wp wp wi wi", "wp", "wq", "wp wp", "", "wp wi", "zz", "wp wp a1", "?", "wp wq wi wp wq wi wi wq wi"}

// answer is what a call answered.
type answer struct {
	listed []string
	codes  []int
	code   api.Errno
}

func answered(listed []string, codes []int, code api.Errno) answer {
	return answer{listed, codes, code}
}

func (a answer) copied() answer { return answer{slices.Clone(a.listed), slices.Clone(a.codes), a.code} }

func (a answer) is(other answer) bool {
	return slices.Equal(a.listed, other.listed) && slices.Equal(a.codes, other.codes) && a.code == other.code
}

func (a answer) spoil() {
	spoil(a.listed, "spoilt")
	spoil(a.codes, -99)
}

// spoilt tells whether something of that was written on the answer or on its room.
func (a answer) spoilt() bool {
	return slices.Contains(a.listed[:cap(a.listed)], "spoilt") || slices.Contains(a.codes[:cap(a.codes)], -99)
}

// P16.6: what is handed in is not changed, the room behind its lists neither, which nobody looks at; and it is not kept: written over, it changes no answer.
func TestHandedIn(t *testing.T) {
	b := loaded(t, chapter)
	plain := contextOf(t, b, "t")
	for _, text := range lists {
		c, l := roomyContext(plain), roomyNodes(nodes(text))
		wasContext, wasNodes := wholeContext(c), wholeNodes(l)
		got := answered(Nodes(c, l))
		if !reflect.DeepEqual(wholeContext(c), wasContext) || !reflect.DeepEqual(wholeNodes(l), wasNodes) {
			t.Errorf("P16.6: Nodes(%q) changed what was handed in", text)
		}
		want := answered(Nodes(plain, nodes(text)))
		spoilContext(c)
		spoilNodes(l)
		if !got.is(want) || got.spoilt() {
			t.Errorf("P16.6: Nodes(%q) looked at the room behind lists, or hangs on what was handed in: %v, want %v", text, got, want)
		}
	}
	for _, text := range tries {
		c, labels := roomyContext(plain), roomy(strings.Fields(text), "room")
		wasContext, wasLabels := wholeContext(c), whole(labels)
		got := answered(Labels(b, c, labels))
		if !reflect.DeepEqual(wholeContext(c), wasContext) || !slices.Equal(whole(labels), wasLabels) {
			t.Errorf("P16.6: Labels(%q) changed what was handed in", text)
		}
		want := answered(Labels(b, plain, strings.Fields(text)))
		spoilContext(c)
		spoil(labels, "spoilt")
		if !got.is(want) || got.spoilt() {
			t.Errorf("P16.6: Labels(%q) looked at the room behind lists, or hangs on what was handed in: %v, want %v", text, got, want)
		}
	}
}

// manyTheorems is a text with theorems of all sorts.
const manyTheorems = bare + `t1 $p w $= g j j $. t2 $p w $= ( g d ) CZEDZFD $. t3 $p w $= h $. t4 $p w $= ( ) A $. t5 $p w $= ? $. t6 $p w $= h h d h h d d h h d d $. t7 $p w $= ( g d c ) CZFDZGDZHDZIJGE $. $}`

// calls gives every call of the layer that is tried here, each as a function that makes it anew.
func calls(t *testing.T) map[string]func() answer {
	b, many := loaded(t, chapter), loaded(t, manyTheorems)
	c := contextOf(t, b, "t")
	all := map[string]func() answer{}
	for _, text := range lists {
		all["Nodes "+text] = func() answer { return answered(Nodes(c, nodes(text))) }
	}
	for _, text := range tries {
		all["Labels "+text] = func() answer { return answered(Labels(b, c, strings.Fields(text))) }
	}
	for n := -1; n <= many.Count(); n++ {
		all["Packed "+letters(n+1)] = func() answer { return answered(Packed(many, n)) }
	}
	return all
}

// P16.6: answers are new memory, the room behind them too: written over, or with something behind them, they change no other answer, no later one, and not each other.
func TestAnswersAreNew(t *testing.T) {
	for name, call := range calls(t) {
		first, second := call(), call()
		was := second.copied()
		first.spoil()
		if !second.is(was) || second.spoilt() {
			t.Errorf("P16.6: two answers of %q share memory: %v", name, second)
		}
		_, _ = append(second.listed, "behind"), append(second.codes, -55)
		second.spoil()
		if third := call(); !third.is(was) || third.spoilt() || slices.Contains(third.listed[:cap(third.listed)], "behind") || slices.Contains(third.codes[:cap(third.codes)], -55) {
			t.Errorf("P16.6: %q, written over: %v, want %v", name, third, was)
		}
	}
}

// P16.6: the base is not changed, whatever is asked and whatever is done with the answers.
func TestBaseStays(t *testing.T) {
	b, fresh := loaded(t, manyTheorems), loaded(t, manyTheorems)
	for n := -1; n <= b.Count(); n++ {
		Text(b, n)
		answered(Packed(b, n)).spoil()
		if c, code := b.Context(n); code == api.OK {
			answered(Labels(b, c, []string{"g", "j"})).spoil()
		}
	}
	for n := range fresh.Count() {
		got, _ := b.At(n)
		want, _ := fresh.At(n)
		if !reflect.DeepEqual(got, want) {
			t.Errorf("P16.6: calls made %v of the assertion %v", got, want)
		}
	}
	if b.Text() != manyTheorems || !reflect.DeepEqual(b.Stmts(), fresh.Stmts()) {
		t.Error("P16.6: calls changed the base's text")
	}
}

// R13: nothing is kept from call to call: asked in any order, of two bases in turns, and by many at a time, each call answers as one alone.
func TestOneAnswer(t *testing.T) {
	b, other := loaded(t, manyTheorems), loaded(t, theory)
	want := texts(b, nil)
	answers := make(chan []string)
	for i := range 8 {
		go func() {
			if i%2 == 0 {
				answers <- texts(b, other)
				return
			}
			answers <- texts(b, nil)
		}()
	}
	for range 8 {
		if got := <-answers; !slices.Equal(got, want) {
			t.Errorf("R13: %s, want %s", short(got), short(want))
		}
	}
}

// texts gives what all theorems are folded to; with another base: asked from the last on, that one between.
func texts(b, other *base.Base) []string {
	all := make([]string, b.Count())
	for i := range all {
		n := i
		if other != nil {
			n = len(all) - 1 - i
			Text(other, n)
		}
		text, code := Text(b, n)
		all[n] = text + " " + letters(int(code))
	}
	return all
}
