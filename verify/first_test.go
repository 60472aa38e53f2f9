package verify

import (
	"slices"
	"strings"
	"testing"

	"lemma/api"
	"lemma/base"
)

// others are words to stand behind the word that offends; none of them ends a bracket.
var others = [][]string{nil, {"?"}, {"no"}, {"("}, {"wx", "wx", "none"}, {"A", "Z", "ZZ", "aU", "U"}, {"\x00"}, {""}, {"$.", "wx wy"}}

// replaced gives all lists that have the words up to the one number at, and others behind it; of a word in brackets the bracket's end stays, and what is behind that too or not.
func replaced(words []api.Token, at int) [][]api.Token {
	isEnd := func(w api.Token) bool { return w.Text == ")" }
	packed := words[0].Text == "("
	inside := packed && !slices.ContainsFunc(words[:at], isEnd)
	end := slices.IndexFunc(words[at:], isEnd)
	var all [][]api.Token
	for i, other := range others {
		first := slices.Concat(words[:at+1], Words(other))
		next := Words(others[(i+3)%len(others)])
		switch {
		case inside && end >= 0:
			all = append(all, slices.Concat(first, words[at+end:]), slices.Concat(first, words[at+end:at+end+1], next))
		case inside:
			all = append(all, first, slices.Concat(first, next))
		default:
			all = append(all, first, slices.Concat(first, Words([]string{")"}), next), slices.Concat(first, words[at+1:]))
		}
	}
	return all
}

// firstWord holds what P14.3 says of a proof in a context, and tells whether it has a word that offends.
func firstWord(t *testing.T, b *base.Base, c api.Context, words []api.Token) bool {
	t.Helper()
	v := Text(b, c, words, behind)
	at := slices.Index(words, v.At)
	elsewhere := api.Token{Text: "elsewhere", At: api.Pos{Off: -4}}
	want := v
	if v.At == behind {
		want.At = elsewhere
	}
	if got := Text(b, c, words, elsewhere); got != want {
		t.Fatalf("P14.3: %.300v with another end: %v, want %v", words, got, want)
	}
	if v.Code == api.OK || v.At == behind {
		return false
	}
	for _, other := range replaced(words, at) {
		if got := Text(b, c, other, elsewhere); got != v {
			t.Fatalf("P14.3: %.300v: %v, but %.300v: %v", words, v, other, got)
		}
	}
	return true
}

// P14.3: the tries of this package's tests, one error after the other.
func TestFirstWordOfTries(t *testing.T) {
	b := loaded(t, many)
	c := contextOf(t, b, "t")
	for _, words := range []string{
		"wx wy wi ?", "no wx", "wx hx wi", "t", "none late wx", "wi wi", "wx wy dp dp", "none" + strings.Repeat(" dd", 9), strings.Repeat("wx ", 45), strings.Repeat("none dd dd dp ", 1200), "wx wi wx wy wi",
		"( wi no ) ABC", "( wi no wz", "( hx ) A", "( wi t wz ) ABC", "( wi wx wx ) A", "( wi wz wi wz", "( wi ) A a C", "( wi ) AU Z B", "( wi ) A ? B", "( wi ) Z A", "( wi ) A ZZ B", "( wi ) AB D C", "( wi ) AC B C", "( dp ) ABC ABC", "( none dd ) CDDDDDDDDD D", "( wi ) " + strings.Repeat("A", 41) + " A", "( none dd ) C" + strings.Repeat("Z", 1) + strings.Repeat(" A", 45),
	} {
		if !firstWord(t, b, c, placed(strings.Fields(words)...)) {
			t.Errorf("%.100q has no word that offends", words)
		}
	}
	long := loaded(t, "$c w $. g $a w $. ${ e $e w $. j $a w $. $} t $p w $= ? $.")
	for _, words := range []string{"g" + strings.Repeat(" j", 4200), "( g j ) A" + strings.Repeat("B", 3999) + " B A", "( g j ) A" + strings.Repeat(" ZB", 2500)} {
		if !firstWord(t, long, contextOf(t, long, "t"), placed(strings.Fields(words)...)) {
			t.Errorf("%.100q has no word that offends", words)
		}
	}
}

// P14.3: all short lists of words, plain and packed.
func TestFirstWordOfShort(t *testing.T) {
	b := loaded(t, small)
	contexts := smallContexts(t, b)
	lists := shortLists(3, "wx", "none", "two", "hxy", "e1", "?", "(", ")", "A", "out")
	for _, words := range shortLists(3, "wy", "none", "hx", "two", ")", "AZ", "CU", "?", "Z") {
		lists = append(lists, append([]string{"("}, words...), append([]string{"(", "none", ")"}, words...))
	}
	offend := 0
	for _, words := range lists {
		for _, c := range contexts {
			if firstWord(t, b, c, placed(words...)) {
				offend++
			}
		}
	}
	if offend < 1000 {
		t.Errorf("%d offend: hardly tried", offend)
	}
}

// P14.3: long proofs by a rule.
func TestFirstWordByRule(t *testing.T) {
	b := loaded(t, growing)
	c := contextOf(t, b, "t")
	r := rule(143)
	labels := []string{"cat", "dbl", "wx", "wy", "wa", "far", "wz", "px", "both"}
	offend := 0
	for range 400 {
		for _, words := range [][]string{r.plain(b, c, labels, 10), r.packed(b, c, labels, 10)} {
			if firstWord(t, b, c, placed(words...)) {
				offend++
			}
		}
	}
	if offend < 300 {
		t.Errorf("%d offend: hardly tried", offend)
	}
}
