package pack

import (
	"slices"
	"strings"
	"testing"

	"lemma/api"
	"lemma/base"
	"lemma/stack"
)

// asPlain holds the run of a packed proof, whose codes are numbers of labels alone, against that of the plain proof of these labels.
func asPlain(t *testing.T, b *base.Base, c api.Context, p api.Proof) api.Errno {
	t.Helper()
	names := Names(c, p)
	var labels []string
	for _, told := range p.Codes {
		labels = append(labels, names[told.N])
	}
	v := Run(b, c, p)
	w := stack.Run(b, c, api.Proof{Form: api.FormPlain, Labels: placed(labels...), End: behind})
	if v.Code != w.Code || v.Count != w.Count || v.Peak != w.Peak {
		t.Fatalf("P12.3: %v: %v, the plain proof %v: %v", p, v, labels, w)
	}
	return v.Code
}

// P12.3: all short lists of numbers without a back reference, in the contexts of a text.
func TestShortWithoutBackReference(t *testing.T) {
	b := loaded(t, small)
	seen := map[api.Errno]int{}
	for _, label := range []string{"hxy", "in", "deep", "out"} {
		c := contextOf(t, b, label)
		words := slices.DeleteFunc([]string{"none", "two", "hxy", "wx", "wy"}, func(word string) bool {
			return isMandatory(c, word) || label == "hxy" && word == "hxy"
		})
		numbers := make([]int, len(c.Mandatory)+len(words))
		for i := range numbers {
			numbers[i] = i
		}
		for _, codes := range shortLists(5, numbers...) {
			seen[asPlain(t, b, c, api.Proof{Form: api.FormPacked, Labels: placed(words...), Codes: coded(codes...), End: behind})]++
		}
	}
	for _, code := range []api.Errno{api.OK, api.ErrUnder, api.ErrKind, api.ErrHyp, api.ErrApart, api.ErrLeft, api.ErrGoal} {
		if seen[code] < 5 {
			t.Errorf("the code %d came %d times: it is hardly tried", code, seen[code])
		}
	}
}

// P12.3: long lists of numbers by a rule; deep stacks, long results, and more than MaxProof codes.
func TestLongWithoutBackReference(t *testing.T) {
	b := loaded(t, growing)
	c := contextOf(t, b, "t")
	r := rule(3)
	seen := map[api.Errno]int{}
	for range 2000 {
		p := api.Proof{Form: api.FormPacked, Labels: placed("dbl", "wx", "wy", "wa", "cat", "px", "both", "far", "wz"), End: behind}
		codes := r.grow(b, c, p)
		known := len(Names(c, p))
		p.Codes = slices.DeleteFunc(codes, func(told api.Code) bool { return told.N < 0 || told.N >= known })
		seen[asPlain(t, b, c, p)]++
	}
	for name, codes := range map[string][]int{
		"full":     slices.Repeat([]int{1}, 40),
		"too deep": slices.Repeat([]int{1}, 41),
		"long":     slices.Concat([]int{3}, slices.Repeat([]int{0}, 7)),
		"too long": slices.Concat([]int{3}, slices.Repeat([]int{0}, 8)),
	} {
		p := api.Proof{Form: api.FormPacked, Labels: placed("dbl", "wx", "wy", "wa"), Codes: coded(codes...), End: behind}
		code := asPlain(t, b, c, p)
		if tooMuch := code == api.ErrDeep || code == api.ErrTooLong; tooMuch != strings.HasPrefix(name, "too") {
			t.Errorf("P12.3: %s: %d", name, code)
		}
		seen[code]++
	}
	for _, code := range []api.Errno{api.ErrUnder, api.ErrKind, api.ErrHyp, api.ErrApart, api.ErrTooLong, api.ErrDeep, api.ErrLeft} {
		if seen[code] == 0 {
			t.Errorf("the code %d never came", code)
		}
	}
	steps := loaded(t, "$c a $. x $a a $. ${ h $e a $. y $a a $. $} t $p a $= ? $.")
	for codes, want := range map[int]api.Errno{3999: api.OK, 4000: api.OK, 4001: api.ErrSteps, 5000: api.ErrSteps} {
		p := api.Proof{Form: api.FormPacked, Labels: placed("y", "x"), Codes: coded(append([]int{1}, make([]int, codes-1)...)...), End: behind}
		if code := asPlain(t, steps, contextOf(t, steps, "t"), p); code != want {
			t.Errorf("P12.3: %d codes: %d, want %d", codes, code, want)
		}
	}
}

// saving gives the codes with a save put in behind the code number at, the later numbers moved as P12.4 says; known is m + k.
func saving(codes []api.Code, at, known int) []api.Code {
	gets := known
	for _, told := range codes[:at+1] {
		if told.N == api.CodeSave {
			gets++
		}
	}
	later := slices.Clone(codes[at+1:])
	for i := range later {
		if later[i].N >= gets {
			later[i].N++
		}
	}
	return slices.Concat(codes[:at+1], []api.Code{{N: api.CodeSave, At: codes[at].At}}, later)
}

// saveAlone puts a save in at every place where one may be, and holds the verdicts against each other; it tells at how many.
func saveAlone(t *testing.T, b *base.Base, c api.Context, p api.Proof) int {
	t.Helper()
	want := Run(b, c, p)
	codes, places := p.Codes, 0
	for at, told := range codes {
		if told.N < 0 || at+1 < len(codes) && codes[at+1].N == api.CodeSave {
			continue
		}
		p.Codes = saving(codes, at, len(Names(c, p)))
		v := Run(b, c, p)
		if v.Code != want.Code || v.Count != want.Count || v.Peak != want.Peak {
			t.Fatalf("P12.4: %v with a save behind the code number %d: %v, without it %v", codes, at, v, want)
		}
		places++
	}
	return places
}

// P12.4: a save put in anywhere, in all short lists of codes.
func TestShortWithASave(t *testing.T) {
	b := loaded(t, small)
	places := 0
	for _, label := range []string{"in", "out"} {
		c := contextOf(t, b, label)
		words := []string{"two", "none"}
		for _, codes := range shortLists(5, 0, 1, len(c.Mandatory), len(c.Mandatory)+2, len(c.Mandatory)+3, api.CodeSave, api.CodeOpen) {
			p := api.Proof{Form: api.FormPacked, Labels: placed(words...), Codes: coded(codes...), Cut: len(codes) == 4, End: behind}
			places += saveAlone(t, b, c, p)
		}
	}
	if places < 10000 {
		t.Errorf("a save at %d places: hardly tried", places)
	}
}

// P12.4: a save put in anywhere, in derivations and in long lists of codes, and up to MaxProof codes.
func TestLongWithASave(t *testing.T) {
	places := 0
	derivations := loaded(t, logic)
	written(t, derivations, func(c api.Context, p api.Proof, _ api.Verdict) {
		if len(p.Codes) < 60 {
			places += saveAlone(t, derivations, c, p)
		}
	})
	b := loaded(t, growing)
	c := contextOf(t, b, "t")
	r := rule(4)
	for range 150 {
		p := api.Proof{Form: api.FormPacked, Labels: placed("dbl", "wx", "wy", "wa", "cat", "px", "both", "far", "wz"), End: behind}
		p.Codes = r.grow(b, c, p)
		places += saveAlone(t, b, c, p)
	}
	if places < 10000 {
		t.Errorf("a save at %d places: hardly tried", places)
	}
	steps := loaded(t, "$c a $. x $a a $. ${ h $e a $. y $a a $. $} t $p a $= ? $.")
	p := api.Proof{Form: api.FormPacked, Labels: placed("y", "x"), Codes: coded(append([]int{1}, make([]int, 3998)...)...), End: behind}
	for _, at := range []int{0, 1, 2000, 3998} {
		q := p
		q.Codes = saving(p.Codes, at, 2)
		if v := Run(steps, contextOf(t, steps, "t"), q); v != (api.Verdict{Count: 3999, Peak: 1}) {
			t.Errorf("P12.4: MaxProof codes, one of them a save: %v", v)
		}
	}
}
