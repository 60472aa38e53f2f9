package letters

import (
	"slices"
	"strings"
	"testing"

	"lemma/api"
)

// spoil writes over a list and the room behind it.
func spoil[T any](l []T, with T) {
	l = l[:cap(l)]
	for i := range l {
		l[i] = with
	}
}

// roomy gives a list of its own with as much room behind it, and the whole of it, room and all.
func roomy[T any](l []T, behind T) (list, whole []T) {
	whole = slices.Concat(l, slices.Repeat([]T{behind}, len(l)+3))
	return whole[:len(l)], whole
}

// P9.5: codes that are told may be written over: neither what was told ahead nor what is told later is another for it.
func TestCodesAreNew(t *testing.T) {
	spoilt := api.Code{N: -99, At: api.Token{Text: "spoilt"}}
	for _, texts := range [][]string{{"A"}, {"AUAZ?"}, {"U", "", "A", "Ua"}, {"UZ", "AU"}, {strings.Repeat("AZUB?", 50)}, {"A", "B", "C"}} {
		list := words(texts...)
		first, _ := Decode(list)
		second, _ := Decode(list)
		want := slices.Clone(second)
		spoil(first, spoilt)
		if !slices.Equal(second, want) {
			t.Errorf("P9.5: two answers to Decode(%q) share memory", texts)
		}
		if third, _ := Decode(list); !slices.Equal(third, want) {
			t.Errorf("P9.5: Decode(%q) is another behind an answer that was written over", texts)
		}
		if !slices.Equal(list, words(texts...)) {
			t.Errorf("P9.5: Decode(%q) shares memory with its words", texts)
		}
	}
}

// P9.5: words are not changed and not kept, the room behind them neither.
func TestWordsStay(t *testing.T) {
	list, whole := roomy(words("U", "", "AZ", "Ua?", "\xff", "YY"), api.Token{Text: "behind"})
	before := slices.Clone(whole)
	codes, _ := Decode(list)
	if !slices.Equal(whole, before) {
		t.Errorf("P9.5: Decode made %v of %v", whole, before)
	}
	want := slices.Clone(codes)
	spoil(whole, api.Token{Text: "spoilt"})
	if !slices.Equal(codes, want) {
		t.Errorf("P9.5: what Decode told became %v, was %v", codes, want)
	}
	if later, _ := Decode(words("B")); !slices.Equal(numbers(later), []int{1}) {
		t.Errorf("P9.5: Decode behind it: %v", later)
	}
}

// P9.5: codes that are handed to Print are not changed and not kept, the room behind them neither, whether it refuses them or not.
func TestCodesStay(t *testing.T) {
	for _, codes := range [][]int{{0, save, 20, open, 619, top - 1}, {0, bad, 1}, {top}, {}} {
		list, whole := roomy(codes, 77)
		before := slices.Clone(whole)
		s, code := Print(list)
		if !slices.Equal(whole, before) {
			t.Errorf("P9.5: Print made %v of %v", whole, before)
		}
		told := strings.Clone(s)
		spoil(whole, -99)
		if s != told {
			t.Errorf("P9.5: what Print told became %q, was %q", s, told)
		}
		if again, codeAgain := Print(codes); again != told || codeAgain != code {
			t.Errorf("P9.5: Print(%v) again: %q, %d, was %q, %d", codes, again, codeAgain, told, code)
		}
	}
}

// P9.5: digits that one call leaves without a letter are not kept for the next.
func TestNothingIsKept(t *testing.T) {
	checkRead(t, text("AUUU"), true, 0)
	checkRead(t, text("A"), false, 0)
	checkRead(t, text("Y"), true)
	checkRead(t, text("Z"), false, save)
	checkRead(t, nil, false)
}
