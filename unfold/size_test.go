package unfold

import (
	"slices"
	"strings"
	"testing"

	"lemma/api"
	"lemma/base"
	"lemma/proof"
	"lemma/verify"
)

// chain is a plain proof in bare of so many labels.
func chain(many int) []string {
	return append([]string{"g"}, slices.Repeat([]string{"j"}, many-1)...)
}

// sized gives the codes of a packed proof in bare that unfolds to so many labels, with "( g j d )" ahead of them, and how many steps it saves. An even number is a label more than the one ahead of it, an odd one the double of its half, and one more.
func sized(many int) ([]int, int) {
	if many == 1 {
		return []int{2}, 0
	}
	if many%2 == 0 {
		codes, saves := sized(many - 1)
		return append(codes, 3), saves
	}
	codes, saves := sized(many / 2)
	return append(codes, api.CodeSave, 5+saves, 4), saves + 1
}

// packedSized is the proof's text.
func packedSized(many int) string {
	codes, _ := sized(many)
	text, _ := proof.Packed([]string{"g", "j", "d"}, codes)
	return text
}

// sizedLabels is what it unfolds to.
func sizedLabels(many int) []string {
	switch {
	case many == 1:
		return []string{"g"}
	case many%2 == 0:
		return append(sizedLabels(many-1), "j")
	}
	half := sizedLabels(many / 2)
	return slices.Concat(half, half, []string{"d"})
}

// 15.1, 15.2: a plain proof with just MaxUnfold labels, with one more, with MaxProof, and with one more than that, which is not proved.
func TestPlainLimit(t *testing.T) {
	for _, many := range []int{1, 2, 1998, 1999, 2000} {
		b := loaded(t, bareTheorem(strings.Join(chain(many), " ")))
		unfoldsTo(t, b, numberOf(t, b, "t"), chain(many))
	}
	for _, many := range []int{2001, 2002, 3000, 3999, 4000} {
		b := loaded(t, bareTheorem(strings.Join(chain(many), " ")))
		tooLong(t, b, numberOf(t, b, "t"))
	}
	b := loaded(t, bareTheorem(strings.Join(chain(4001), " ")))
	refuses(t, b, numberOf(t, b, "t"), api.ErrUnproved)
	if v, _ := verify.Theorem(b, numberOf(t, b, "t")); v.Code != api.ErrSteps {
		t.Errorf("P0.1: 4001 labels: %v", v)
	}
}

// The same of packed proofs that save nothing; a proof whose steps are just as many as may be, saves among them.
func TestPackedLimit(t *testing.T) {
	for _, many := range []int{1, 2, 1999, 2000} {
		b := loaded(t, bareTheorem("( g j ) C"+strings.Repeat("D", many-1)))
		unfoldsTo(t, b, numberOf(t, b, "t"), chain(many))
		b = loaded(t, bareTheorem("( g j ) C"+strings.Repeat("ZD", many-1)))
		unfoldsTo(t, b, numberOf(t, b, "t"), chain(many))
	}
	for _, many := range []int{2001, 2002, 4000} {
		b := loaded(t, bareTheorem("( g j ) C"+strings.Repeat("D", many-1)))
		tooLong(t, b, numberOf(t, b, "t"))
	}
	b := loaded(t, bareTheorem("( g j ) C"+strings.Repeat("ZD", 1999)+"Z"))
	unfoldsTo(t, b, numberOf(t, b, "t"), chain(2000))
	b = loaded(t, bareTheorem("( g j ) C"+strings.Repeat("D", 4000)))
	refuses(t, b, numberOf(t, b, "t"), api.ErrUnproved)
}

// manySized loads a text with a theorem for each number of labels.
func manySized(t *testing.T, from, to int) (*base.Base, int) {
	t.Helper()
	text := bare
	for many := from; many < to; many++ {
		text += "t" + letters(many) + " $p w $= " + packedSized(many) + " $.\n"
	}
	b := loaded(t, text+"$}")
	return b, numberOf(t, b, "t"+letters(from))
}

// 15.1, 15.2: packed proofs of every number of labels up to MaxUnfold and beyond it.
func TestEverySize(t *testing.T) {
	for from := 1; from <= 2100; from += 300 {
		b, first := manySized(t, from, from+300)
		for i := range 300 {
			many, n := from+i, first+i
			if many > 2000 {
				tooLong(t, b, n)
				continue
			}
			unfoldsTo(t, b, n, sizedLabels(many))
		}
	}
}

// 15.4, 15.5 at the edge: what unfolds to just MaxUnfold labels.
func TestRunAtTheLimit(t *testing.T) {
	b, first := manySized(t, 1990, 2010)
	for i := range 20 {
		if holds(t, b, first+i); i <= 10 {
			continue
		}
		tooLong(t, b, first+i)
	}
}
