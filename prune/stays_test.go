package prune

import (
	"fmt"
	"maps"
	"slices"
	"strings"
	"testing"

	"lemma/api"
	"lemma/base"
	"lemma/deps"
	"lemma/scan"
	"lemma/verify"
)

// group is a set of the tests' own, of assertions by number.
type group map[int]bool

// hypsByName writes hypotheses by their labels and symbols' names.
func hypsByName(b *base.Base, hyps []api.Hyp) string {
	var text strings.Builder
	for _, h := range hyps {
		fmt.Fprintf(&text, "%s %t %s: %s; ", h.Label, h.Floating, b.Name(h.Var), b.Print(h.Expr))
	}
	return text.String()
}

// pairsByName writes pairs by their variables' names.
func pairsByName(b *base.Base, pairs []api.Pair) string {
	var text strings.Builder
	for _, p := range pairs {
		fmt.Fprintf(&text, "%s %s; ", b.Name(p.A), b.Name(p.B))
	}
	return text.String()
}

// proofOf gives the words of an assertion's proof.
func proofOf(a api.Assertion) string {
	var words []string
	for _, word := range a.Proof {
		words = append(words, word.Text)
	}
	return strings.Join(words, " ")
}

// described tells all of an assertion but its number and its places.
func described(b *base.Base, a api.Assertion) string {
	return fmt.Sprintf("%s %t\ngoal %s\nneeds %s\npairs %s\nscope %s\npairs %s\nproof %s", a.Label, a.Theorem, b.Print(a.Frame.Goal),
		hypsByName(b, a.Frame.Hyps), pairsByName(b, a.Frame.Pairs), hypsByName(b, a.Scope.Hyps), pairsByName(b, a.Scope.Pairs), proofOf(a))
}

// offends gives which word of its proof a verdict is at: the number of the word, or how many there are for the word behind the proof.
func offends(t *testing.T, a api.Assertion, v api.Verdict) int {
	t.Helper()
	if v.At == a.End {
		return len(a.Proof)
	}
	at := slices.Index(a.Proof, v.At)
	if at < 0 && v.Code != api.OK {
		t.Fatalf("the verdict on %s is at no word of its proof: %v", a.Label, v)
	}
	return at
}

// verdictHolds holds the verdict on a theorem in one base to be that in another, but for its token's place, which is that of the same word.
func verdictHolds(t *testing.T, b, left *base.Base, n, k int) {
	t.Helper()
	was, wasCode := verify.Theorem(b, n)
	is, isCode := verify.Theorem(left, k)
	wasIn, _ := b.At(n)
	isIn, _ := left.At(k)
	wasAt, isAt := offends(t, wasIn, was), offends(t, isIn, is)
	if place, _ := scan.Place(left.Text(), is.At.At.Off); is.Code != api.OK && is.At.At != place {
		t.Errorf("18.4: the verdict on %s is at %v", is.Label, is.At)
	}
	was.At.At, is.At.At = api.Pos{}, api.Pos{}
	if was != is || wasCode != isCode || wasAt != isAt {
		t.Errorf("18.4: the verdict on the assertion %d was %v, %d, at the word %d, and is %v, %d, at %d", n, was, wasCode, wasAt, is, isCode, isAt)
	}
}

// leadsTo tells whether a chain of naming leads from an assertion to one of these, by deps alone.
func leadsTo(b *base.Base, n int, to, met group) bool {
	if to[n] {
		return true
	}
	met[n] = true
	named, _ := deps.Named(b, n)
	return slices.ContainsFunc(named, func(label string) bool {
		k, asserted := b.Find(label)
		return asserted && !met[k] && leadsTo(b, k, to, met)
	})
}

// fallHolds holds what 18.1 says of Falls by deps alone: rising, each once, n among them, and else just the theorems from which a chain leads to it.
func fallHolds(t *testing.T, b *base.Base, n int) group {
	t.Helper()
	numbers, code := Falls(b, n)
	gone := group{}
	for i, k := range numbers {
		if i > 0 && k <= numbers[i-1] {
			t.Fatalf("18.1: Falls(%d) does not rise: %v", n, numbers)
		}
		gone[k] = true
	}
	for k := range b.Count() {
		a, _ := b.At(k)
		if goes := leadsTo(b, k, group{n: true}, group{}); goes != gone[k] || k != n && goes && !a.Theorem || code != api.OK {
			t.Fatalf("18.1: Falls(%d): %v, %d; a chain leads to it from %d: %t", n, numbers, code, k, goes)
		}
	}
	return gone
}

// symbolsHold holds the symbols of one base to be those of another, by their numbers.
func symbolsHold(t *testing.T, b, left *base.Base) {
	t.Helper()
	if b.Symbols() != left.Symbols() {
		t.Fatalf("18.3: %d symbols are left of %d", left.Symbols(), b.Symbols())
	}
	for n := range b.Symbols() {
		if b.Name(n) != left.Name(n) || b.IsVar(n) != left.IsVar(n) {
			t.Errorf("18.3: the symbol %d was %s and is %s", n, b.Name(n), left.Name(n))
		}
	}
}

// goneHolds holds 18.5: an assertion that went is not there, and nobody names it.
func goneHolds(t *testing.T, left *base.Base, label string) {
	t.Helper()
	if n, found := left.Find(label); n != 0 || found || left.Taken(label) {
		t.Errorf("18.5: %s is there still: %d, %t", label, n, found)
	}
	if users := deps.Users(left, label); len(users) > 0 {
		t.Errorf("18.5: %s is named still by %v", label, users)
	}
}

// staysHold holds 18.3 to 18.5 of any base without an assertion, and gives what is left.
func staysHold(t *testing.T, b *base.Base, n int) *base.Base {
	t.Helper()
	gone := fallHolds(t, b, n)
	text, code := Without(b, n)
	if code != api.OK {
		t.Fatalf("18.2: Without(%d): %d", n, code)
	}
	left := loaded(t, text)
	if left.Count() != b.Count()-len(gone) {
		t.Fatalf("18.3: of %d assertions go %v, and %d stay", b.Count(), slices.Sorted(maps.Keys(gone)), left.Count())
	}
	symbolsHold(t, b, left)
	at := 0
	for k := range b.Count() {
		was, _ := b.At(k)
		if gone[k] {
			goneHolds(t, left, was.Label)
			continue
		}
		is, _ := left.At(at)
		if is, was := described(left, is), described(b, was); is != was {
			t.Errorf("18.3: without the assertion %d another is\n%s\nand was\n%s", n, is, was)
		}
		verdictHolds(t, b, left, k, at)
		at++
	}
	return left
}
