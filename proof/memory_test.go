package proof

import (
	"slices"
	"strings"
	"testing"
	"unsafe"

	"lemma/api"
)

// spoil writes over a list and the room behind it.
func spoil[T any](l []T, with T) {
	l = l[:cap(l)]
	for i := range l {
		l[i] = with
	}
}

// roomy gives a list of its own with room behind it, and the whole of it, room and all.
func roomy[T any](l []T, room T) (list, whole []T) {
	whole = slices.Concat(l, slices.Repeat([]T{room}, len(l)+3))
	return whole[:len(l)], whole
}

func copied(p api.Proof) api.Proof {
	p.Labels, p.Codes = slices.Clone(p.Labels), slices.Clone(p.Codes)
	return p
}

var (
	spoiltWord = api.Token{Text: "spoilt"}
	spoiltCode = api.Code{N: -99, At: spoiltWord}
)

// proofs are texts of all forms.
func proofs() []string {
	return []string{"", "a", "a b c", ") a (", "(", "( a", "( a b ( c", "( )", "( a )", "( a b ) AB Z", "( ) A U B", "( a ) AU", "( a b c ) UZ a ? A Y", "( " + strings.Repeat("a ", 50) + ") " + strings.Repeat("AZ ", 50)}
}

// R11: the lists that Parse tells may be written over, their spare room too: no other answer, no argument and not the other list are another for it.
func TestListsAreNew(t *testing.T) {
	for _, text := range proofs() {
		list := words(text)
		first, second := Parse(list, behind), Parse(list, behind)
		want := copied(second)
		spoil(first.Labels, spoiltWord)
		if !slices.Equal(first.Codes, want.Codes) {
			t.Errorf("R11: Parse(%q): labels and codes share memory", text)
		}
		spoil(first.Codes, spoiltCode)
		if !same(second, want) || !same(Parse(list, behind), want) {
			t.Errorf("R11: Parse(%q): two answers share memory", text)
		}
		if !slices.Equal(list, words(text)) {
			t.Errorf("R11: Parse(%q): the answer shares memory with the words", text)
		}
		labels := append(second.Labels, spoiltWord, spoiltWord)
		codes := append(second.Codes, spoiltCode, spoiltCode)
		if !same(second, want) || !slices.Equal(labels[:len(want.Labels)], want.Labels) || !slices.Equal(codes[:len(want.Codes)], want.Codes) || !slices.Equal(list, words(text)) {
			t.Errorf("R11: Parse(%q): more behind the lists", text)
		}
	}
}

// R11: words that are handed in are not changed and not kept, the room behind them neither.
func TestWordsStay(t *testing.T) {
	for _, text := range proofs() {
		list, whole := roomy(words(text), api.Token{Text: ")"})
		before := slices.Clone(whole)
		p := Parse(list, behind)
		want := copied(p)
		if !slices.Equal(whole, before) {
			t.Errorf("R11: Parse(%q) made %v of %v", text, whole, before)
		}
		if !same(p, Parse(words(text), behind)) {
			t.Errorf("R11: Parse(%q) looked at the room behind the words: %v", text, p)
		}
		p.Labels = append(p.Labels, spoiltWord)
		p.Codes = append(p.Codes, spoiltCode)
		if !slices.Equal(whole, before) {
			t.Errorf("R11: Parse(%q): what is told has its spare room in the words", text)
		}
		p.Labels, p.Codes = p.Labels[:len(want.Labels)], p.Codes[:len(want.Codes)]
		spoil(whole, spoiltWord)
		if !same(p, want) {
			t.Errorf("R11: Parse(%q): what was told became %v", text, p)
		}
	}
}

// R11: an empty list that is told is no place in the words either.
func TestEmptyListsAreApart(t *testing.T) {
	for _, text := range []string{"( ) A", "(", "( )"} {
		list, whole := roomy(words(text), spoiltWord)
		p := Parse(list, behind)
		for i := range whole {
			if unsafe.SliceData(p.Labels) == &whole[i] {
				t.Errorf("R11: Parse(%q): the labels begin at the word %d", text, i)
			}
		}
	}
}

// R11: labels and codes that are handed in to be written are not changed and not kept, the room behind them neither.
func TestWrittenStays(t *testing.T) {
	for _, given := range [][]string{nil, {}, {"a"}, {"a", "?"}, {"a", "b c"}, {long(32), long(32), long(32)}, many("x", 40), {"("}} {
		for _, said := range [][]int{nil, {}, {0}, {0, save, open, 20}, {bad}, make([]int, 73)} {
			labels, allLabels := roomy(given, "room")
			codes, allCodes := roomy(said, 7)
			plain, plainCode := Plain(labels)
			packed, packedCode := Packed(labels, codes)
			if !slices.Equal(allLabels, slices.Concat(given, many("room", len(given)+3))) || !slices.Equal(allCodes, slices.Concat(said, slices.Repeat([]int{7}, len(said)+3))) {
				t.Errorf("R11: Packed(%q, %v) made %q, %v of them", given, said, allLabels, allCodes)
			}
			wantPlain, wantPacked := strings.Clone(plain), strings.Clone(packed)
			spoil(allLabels, "spoilt")
			spoil(allCodes, -99)
			if plain != wantPlain || packed != wantPacked {
				t.Errorf("R11: what was told of %q, %v became %q, %q", given, said, plain, packed)
			}
			again, againCode := Plain(given)
			if other, otherCode := Packed(given, said); again != plain || againCode != plainCode || other != packed || otherCode != packedCode {
				t.Errorf("R11: %q, %v again: %q, %d and %q, %d", given, said, again, againCode, other, otherCode)
			}
		}
	}
}

// R11: a text that is told lies in no label's bytes, also where it is one label alone.
func TestTextIsNew(t *testing.T) {
	label := strings.Clone("ax-1")
	if text := mustPlain(t, []string{label}); text != label || unsafe.StringData(text) == unsafe.StringData(label) {
		t.Errorf("R11: Plain(%q) = %q in the label's bytes", label, text)
	}
}
