package deps

import (
	"maps"
	"slices"
	"strings"
	"testing"

	"lemma/api"
	"lemma/base"
	"lemma/unfold"
	"lemma/verify"
)

// names gives all that a theorem names, used or not, directly or not.
func names(b *base.Base, n int, met marks) marks {
	named, _ := Named(b, n)
	for _, label := range named {
		if k, asserted := b.Find(label); asserted && !met[k] {
			met[k] = true
			names(b, k, met)
		}
	}
	return met
}

// namedBy gives all that name an assertion, directly or not.
func namedBy(b *base.Base, n int, met marks) marks {
	a, _ := b.At(n)
	for _, k := range Users(b, a.Label) {
		if !met[k] {
			met[k] = true
			namedBy(b, k, met)
		}
	}
	return met
}

// without is a base's text without some of its assertions.
func without(b *base.Base, gone marks) string {
	text := b.Text()
	for _, n := range slices.Backward(slices.Sorted(maps.Keys(gone))) {
		a, _ := b.At(n)
		text = text[:a.At.At.Off] + text[a.End.At.Off+len("$."):]
	}
	return text
}

// takenAway holds P0.5 of one axiom: without it and all that names it the theorems that neither rest on it nor name it are proved. It tells how many these are.
func takenAway(t *testing.T, b *base.Base, axiom int) int {
	t.Helper()
	gone := namedBy(b, axiom, marks{})
	gone[axiom] = true
	left := loaded(t, without(b, gone))
	stay := 0
	for n := range b.Count() {
		axioms, code := Axioms(b, n)
		if code != api.OK {
			continue
		}
		named := names(b, n, marks{})[axiom]
		if named != gone[n] {
			t.Fatalf("P17.2, P17.5: of the theorem %d and the axiom %d Named tells %t, Users %t", n, axiom, named, gone[n])
		}
		if slices.Contains(axioms, axiom) && !named {
			t.Fatalf("P17.4: the theorem %d rests on %v, and names no %d", n, axioms, axiom)
		}
		if named {
			continue
		}
		stay++
		a, _ := b.At(n)
		k, found := left.Find(a.Label)
		if v, _ := verify.Theorem(left, k); !found || v.Code != api.OK {
			t.Fatalf("P0.5: without the axiom %d the theorem %d, which rests on %v: %t, %v", axiom, n, axioms, found, v)
		}
	}
	return stay
}

// P0.5: any axiom taken away, with all that names it, of theories by a rule and of a logic with substitutions.
func TestTakenAway(t *testing.T) {
	r := rule(170)
	texts := []string{logic, chapter}
	for try := range 150 {
		texts = append(texts, r.theory(5+r.below(20), []int{4, 20}[try%2]).text())
	}
	stay := 0
	for _, text := range texts {
		b := loaded(t, text)
		for n := range b.Count() {
			if a, _ := b.At(n); !a.Theorem {
				stay += takenAway(t, b, n)
			}
		}
	}
	if stay < 1000 {
		t.Errorf("P0.5: %d theorems stayed: it is hardly tried", stay)
	}
}

// axiomsAt gives the axioms at the nodes of a theorem's derivation and of those of all that it cites, read off unfolded labels; false: one of these is not proved, or can not be unfolded.
func axiomsAt(b *base.Base, n int, met marks) bool {
	labels, code := unfold.Plain(b, n)
	if code != api.OK {
		return false
	}
	for _, label := range labels {
		k, asserted := b.Find(label)
		if !asserted || met[k] {
			continue
		}
		met[k] = true
		if a, _ := b.At(k); a.Theorem && !axiomsAt(b, k, met) {
			return false
		}
	}
	return true
}

// P0.5: the axioms told are just those at the nodes of these derivations.
func TestAtNodes(t *testing.T) {
	r, tried := rule(171), 0
	texts := []string{logic, chapter}
	for try := range 150 {
		texts = append(texts, r.theory(5+r.below(20), []int{4, 20}[try%2]).text())
	}
	for _, text := range texts {
		b := loaded(t, text)
		for n := range b.Count() {
			at := marks{}
			if !axiomsAt(b, n, at) {
				continue
			}
			maps.DeleteFunc(at, func(k int, _ bool) bool {
				a, _ := b.At(k)
				return a.Theorem
			})
			axiomsAre(t, b, n, slices.Sorted(maps.Keys(at))...)
			tried++
		}
	}
	if tried < 500 {
		t.Errorf("P0.5: %d theorems: it is hardly tried", tried)
	}
}

// P0.5: what is named and not used holds its user back alone: with the axiom goes whoever names it, and whoever names that.
func TestNamedNotUsed(t *testing.T) {
	b := loaded(t, `$c w $. a $a w $. b $a w $. t $p w $= ( b a ) B $. u $p w $= ( t ) A $. v $p w $= ( a ) A $.`)
	for n := 2; n < 5; n++ {
		axiomsAre(t, b, n, 0)
	}
	gone := namedBy(b, 1, marks{1: true})
	if want := (marks{1: true, 2: true, 3: true}); !maps.Equal(gone, want) {
		t.Errorf("P17.5: b is named by %v", gone)
	}
	left := loaded(t, without(b, gone))
	if n, found := left.Find("v"); !found || left.Count() != 2 || strings.Contains(left.Text(), "t $p") {
		t.Errorf("what is left: %q", left.Text())
	} else {
		axiomsAre(t, left, n, 0)
	}
}
