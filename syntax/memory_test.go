package syntax

import (
	"fmt"
	"reflect"
	"slices"
	"strings"
	"sync"
	"testing"

	"lemma/api"
	"lemma/base"
)

// A question is what the calls are asked of.
type question struct {
	c api.Context
	e api.Expr
}

// asked are questions of all sorts: with no derivation, one, many, too large ones, and ones not taken.
func asked(t *testing.T) (*base.Base, []question) {
	t.Helper()
	large, kind := sized(5000)
	b := loaded(t, begin+large+"${ $d x y $. e $e wff ( $. last $a wff x y $. $}")
	var all []question
	for _, before := range []int{0, 2, 3, b.Count()} {
		for _, words := range strings.Split(",wff,wff x,wff x y z,wff ( x -> ( y -> x ) ),wff ( ->,wff (,x y,"+kind, ",") {
			all = append(all, question{at(t, b, before), read(b, words)})
		}
		all = append(all, question{at(t, b, before), make(api.Expr, 33)}, question{at(t, b, before), read(b, "wff"+strings.Repeat(" x", 31))})
	}
	own := at(t, b, 3)
	own.Hyps = append(own.Hyps, essential(b, "g", ""), essential(b, "wx", "wff )"), essential(b, "?", "wff )"), essential(b, "wi", "wff ( y"))
	for _, words := range strings.Split(",wff ),wff ( y,wff ( y ( y x", ",") {
		all = append(all, question{own, read(b, words)})
	}
	return b, all
}

// told is what is answered, as one text.
func told(b *base.Base, x question) ([]string, string) {
	labels, no := Prove(b, x.c, x.e)
	size, noSize := Least(b, x.c, x.e)
	ways, noWays := Ways(b, x.c, x.e)
	return labels, fmt.Sprint(labels, no, size, noSize, ways, noWays)
}

// roomyInts gives a copy with room behind it, in which something stands.
func roomyInts(l []int) []int { return append(slices.Clone(l), 77, 78, 79)[:len(l)] }

func roomyHyps(hyps []api.Hyp) []api.Hyp {
	var l []api.Hyp
	for _, h := range hyps {
		h.Expr = roomyInts(h.Expr)
		l = append(l, h)
	}
	return append(l, api.Hyp{Label: "room", Expr: api.Expr{76}}, api.Hyp{Label: "more"})[:len(hyps)]
}

func roomy(x question) question {
	pairs := append(slices.Clone(x.c.Pairs), api.Pair{A: 75, B: 76})[:len(x.c.Pairs)]
	return question{api.Context{Hyps: roomyHyps(x.c.Hyps), Mandatory: roomyHyps(x.c.Mandatory), Pairs: pairs, Goal: roomyInts(x.c.Goal), Before: x.c.Before}, roomyInts(x.e)}
}

// opened shows a question with the room behind all its lists.
func opened(x question) string {
	ints := func(l []int) []int { return l[:cap(l)] }
	hyps := func(l []api.Hyp) string {
		text := fmt.Sprint(l[:cap(l)])
		for _, h := range l {
			text += fmt.Sprint(ints(h.Expr))
		}
		return text
	}
	return fmt.Sprint(hyps(x.c.Hyps), hyps(x.c.Mandatory), x.c.Pairs[:cap(x.c.Pairs)], ints(x.c.Goal), x.c.Before, ints(x.e))
}

// spoil writes over a question, and the room behind its lists.
func spoil(x question) {
	for _, hyps := range [][]api.Hyp{x.c.Hyps, x.c.Mandatory} {
		hyps = hyps[:cap(hyps)]
		for i, h := range hyps {
			spoilInts(h.Expr)
			hyps[i] = api.Hyp{Label: "spoilt", Floating: true, Var: -99, Expr: api.Expr{-99}}
		}
	}
	spoilInts(x.c.Goal)
	spoilInts(x.e)
}

func spoilInts(l []int) {
	l = l[:cap(l)]
	for i := range l {
		l[i] = -99
	}
}

func spoilTexts(l []string) {
	l = l[:cap(l)]
	for i := range l {
		l[i] = "spoilt"
	}
}

// R11, 21.6: what is handed in stays as it is, with the room behind it; and what is told is nobody else's.
func TestMemory(t *testing.T) {
	b, all := asked(t)
	text, stmts := b.Text(), b.Stmts()
	codes := map[string]int{}
	for _, x := range all {
		_, want := told(b, x)
		own := roomy(x)
		before := opened(own)
		labels, answer := told(b, own)
		codes[answer[strings.LastIndex(answer, "]"):]]++
		if answer != want {
			t.Errorf("21.6: of %v: %s, with room behind its lists %s", x, want, answer)
		}
		if opened(own) != before {
			t.Errorf("21.6: %s became %s", before, opened(own))
		}
		kept := slices.Clone(labels)
		spoil(own)
		if !slices.Equal(labels, kept) {
			t.Errorf("21.6: of %v: %v became %v", x, kept, labels)
		}
		spoilTexts(labels)
		if _, again := told(b, x); again != want {
			t.Errorf("21.6: of %v: %s, and when the answer was written over %s", x, want, again)
		}
	}
	if b.Text() != text || !reflect.DeepEqual(b.Stmts(), stmts) {
		t.Errorf("21.6: the base became another one")
	}
	if len(codes) < 8 {
		t.Errorf("too few sorts of answers: %v", codes)
	}
}

// R11, 21.6: no two lists of labels share memory, their spare room neither: each is filled up with a word of its own, and read again when all are.
func TestLabelsApart(t *testing.T) {
	b, all := asked(t)
	var each [][]string
	for _, x := range append(all, all...) {
		labels, _ := Prove(b, x.c, x.e)
		each = append(each, labels[:cap(labels)])
	}
	for n, labels := range each {
		for i := range labels {
			labels[i] = fmt.Sprint(n)
		}
	}
	for n, labels := range each {
		if slices.ContainsFunc(labels, func(label string) bool { return label != fmt.Sprint(n) }) {
			t.Errorf("21.6: the list number %d shares memory: %v", n, labels)
		}
	}
}

// R13: the same answers, whoever asks at the same time, in any order.
func TestManyAtOnce(t *testing.T) {
	b, all := asked(t)
	var want []string
	for _, x := range all {
		_, answer := told(b, x)
		want = append(want, answer)
	}
	var wait sync.WaitGroup
	for n := range 8 {
		wait.Add(1)
		go func() {
			defer wait.Done()
			for i := range 2 * len(all) {
				at := (i*7 + n) % len(all)
				labels, answer := told(b, all[at])
				if answer != want[at] {
					t.Errorf("R13: of %v: %s, want %s", all[at], answer, want[at])
				}
				spoilTexts(labels)
			}
		}()
	}
	wait.Wait()
}
