package verify

import (
	"reflect"
	"slices"
	"strings"
	"testing"

	"lemma/api"
)

// roomy gives a copy of a list with room behind it that is written on.
func roomy[T any](l []T, room T) []T {
	return slices.Concat(l, slices.Repeat([]T{room}, len(l)+3))[:len(l)]
}

// whole gives a list with the room behind it.
func whole[T any](l []T) []T { return slices.Clone(l[:cap(l)]) }

// spoil writes over a list and the room behind it.
func spoil[T any](l []T, with T) {
	l = l[:cap(l)]
	for i := range l {
		l[i] = with
	}
}

var (
	spoiltHyp     = api.Hyp{Label: "spoilt", Floating: true, Var: -99}
	spoiltPair    = api.Pair{A: -99, B: -98}
	spoiltWord    = api.Token{Text: "spoilt"}
	spoiltVerdict = api.Verdict{Label: "spoilt", Code: -1, At: spoiltWord, Count: -1, Peak: -1}
)

// Hypotheses and contexts with room behind all their lists; all of that copied.

func roomyHyps(hyps []api.Hyp) []api.Hyp {
	all := roomy(hyps, spoiltHyp)
	for i := range all {
		all[i].Expr = roomy(all[i].Expr, -77)
	}
	return all
}

func wholeHyps(hyps []api.Hyp) []api.Hyp {
	all := whole(hyps)
	for i := range all {
		all[i].Expr = whole(all[i].Expr)
	}
	return all
}

func roomyContext(c api.Context) api.Context {
	return api.Context{Hyps: roomyHyps(c.Hyps), Pairs: roomy(c.Pairs, spoiltPair), Mandatory: roomyHyps(c.Mandatory), Before: c.Before, Goal: roomy(c.Goal, -77)}
}

func wholeContext(c api.Context) api.Context {
	return api.Context{Hyps: wholeHyps(c.Hyps), Pairs: whole(c.Pairs), Mandatory: wholeHyps(c.Mandatory), Before: c.Before, Goal: whole(c.Goal)}
}

// tries are proofs that end at all sorts of places, in the context of t of the text many.
var tries = []string{
	"wx wy wi", "wx wy wi wz wi none dd wi", "none none dp", "wx", "wx wx dp", "wx wy", "", "no", "?", "wi", "wx hx wi",
	"( wi ) ABC", "( wi ) ABCZDC", "( wi wz ) AZBZCZEFCC", "( wi dp ) ABD", "( wi ) AZZ", "( wi ) AC", "( no ) A", "( wi wi ) A", "( wx", "( wi", "(", "( )",
	"( wi ) ?", "( wi ) AU", "( wi ) AaB", "( wi ) Z", "( none dd ) CZEDZFDZGDZHD", "( none dd ) CDDD", "( wi ) T",
}

// R11: what is handed in is not changed, the room behind its lists neither, which nobody looks at.
func TestHandedIn(t *testing.T) {
	b := loaded(t, many)
	plain := contextOf(t, b, "t")
	plain.Pairs = []api.Pair{{A: 6, B: 5}, {A: 5, B: 5}}
	for _, text := range tries {
		c, words := roomyContext(plain), roomy(placed(strings.Fields(text)...), spoiltWord)
		wasContext, wasWords := wholeContext(c), whole(words)
		v := Text(b, c, words, behind)
		if !reflect.DeepEqual(wholeContext(c), wasContext) || !slices.Equal(whole(words), wasWords) {
			t.Errorf("R11: Text(%q) changed what was handed in", text)
		}
		if want := Text(b, plain, placed(strings.Fields(text)...), behind); v != want {
			t.Errorf("R11: Text(%q) looked at the room behind lists: %v, want %v", text, v, want)
		}
	}
	for _, text := range tries {
		l := roomy(strings.Fields(text), "spoilt")
		was := whole(l)
		if words := Words(l); len(words) != len(l) || !slices.Equal(whole(l), was) {
			t.Errorf("R11: Words(%q) changed what was handed in, or looked at the room behind it: %v", text, words)
		}
	}
}

// R11: what is handed in is not kept: written over, it changes no later answer.
func TestNotKept(t *testing.T) {
	b := loaded(t, many)
	for _, text := range tries {
		c, words := roomyContext(contextOf(t, b, "t")), roomy(placed(strings.Fields(text)...), spoiltWord)
		want := Text(b, c, words, behind)
		spoil(c.Hyps, spoiltHyp)
		spoil(c.Mandatory, spoiltHyp)
		spoil(c.Goal, -99)
		spoil(words, spoiltWord)
		if v := Text(b, contextOf(t, b, "t"), placed(strings.Fields(text)...), behind); v != want {
			t.Errorf("R11: Text(%q) once more: %v, want %v", text, v, want)
		}
		l := roomy(strings.Fields(text), "spoilt")
		tokens := Words(l)
		was := slices.Clone(tokens)
		spoil(l, "written over")
		if !slices.Equal(tokens, was) {
			t.Errorf("R11: what Words(%q) answered hangs on what was handed in: %v", text, tokens)
		}
	}
}

// R11: answers are new memory, their room too: written over, they change no other answer, and no later one.
func TestAnswersAreNew(t *testing.T) {
	b := loaded(t, mixed)
	want := eachTheorem(b)
	for _, workers := range []int{1, 4, 16} {
		first, second := All(b, workers), All(b, workers)
		spoil(first, spoiltVerdict)
		if third := All(b, workers); !slices.Equal(second, want) || !slices.Equal(third, want) {
			t.Errorf("R11: All, written over, by %d workers: %v, then %v", workers, second, third)
		}
	}
	l := []string{"wx", "wy"}
	first, second := Words(l), Words(l)
	spoil(first, spoiltWord)
	if !slices.Equal(second, []api.Token{{Text: "wx"}, {Text: "wy"}}) || !slices.Equal(Words(l), second) || !slices.Equal(l, []string{"wx", "wy"}) {
		t.Errorf("R11: two answers of Words share memory: %v", second)
	}
}

// R11: a base stays as it is, whatever is judged.
func TestBaseStays(t *testing.T) {
	b, fresh := loaded(t, mixed), loaded(t, mixed)
	for _, text := range tries {
		for n := range b.Count() {
			c, _ := b.Context(n)
			Text(b, c, placed(strings.Fields(text)...), behind)
		}
	}
	spoil(All(b, 16), spoiltVerdict)
	for n := range fresh.Count() {
		got, _ := b.At(n)
		want, _ := fresh.At(n)
		if !reflect.DeepEqual(got, want) {
			t.Errorf("R11: calls made %v of the assertion %v", got, want)
		}
	}
	if b.Text() != mixed || !reflect.DeepEqual(b.Stmts(), fresh.Stmts()) {
		t.Error("R11: calls changed the base's text")
	}
}

// nil and empty lists mean the same.
func TestNilAndEmpty(t *testing.T) {
	b := loaded(t, many)
	empty := api.Context{Hyps: []api.Hyp{}, Pairs: []api.Pair{}, Mandatory: []api.Hyp{}, Goal: api.Expr{}, Before: 9}
	for _, text := range tries {
		words := placed(strings.Fields(text)...)
		if v, w := Text(b, api.Context{Before: 9}, words, behind), Text(b, empty, words, behind); v != w {
			t.Errorf("R11: Text(%q) with nil lists: %v, with empty ones: %v", text, v, w)
		}
	}
	for _, e := range []api.Expr{nil, {}} {
		for _, goal := range []api.Expr{nil, {}} {
			c := api.Context{Hyps: []api.Hyp{{Label: "h", Expr: e}}, Mandatory: []api.Hyp{{Label: "h", Expr: e}}, Goal: goal}
			says(t, b, c, "h", api.OK, 0, 0, 1)
			says(t, b, c, "( ) A", api.OK, 0, 0, 1)
		}
	}
	if len(Words(nil)) != 0 || len(Words([]string{})) != 0 {
		t.Error("R11: no words")
	}
}
