package deps

import (
	"fmt"
	"reflect"
	"slices"
	"testing"

	"lemma/base"
)

// spoil writes over a list and the room behind it.
func spoil[T any](l []T, with T) {
	l = l[:cap(l)]
	for i := range l {
		l[i] = with
	}
}

// tries is a text with theorems of all sorts.
const tries = bare + `t1 $p w $= g j j $. t2 $p w $= ( g d j ) CZFDZGD $. t3 $p w $= h $. t4 $p w $= ( t1 g ) A $. t5 $p w $= ? g j g $. t6 $p w $= h i t1 h i t2 d j $.
t7 $p w $= h i t5 $. t8 $p w $= ( t6 t2 t7 d no $. t9 $p w $= ( t6 t2 t4 d t3 ) ABCABDFABEFABGF $. $}`

// labels are words that are asked for their users.
var labels = []string{"g", "h", "t2", "d", "no", "?", ""}

// fresh holds two answers and a later one to share no memory: written over, with their room, they change no other.
func fresh[T comparable](t *testing.T, name string, with T, call func() []T) {
	t.Helper()
	first, second := call(), call()
	was := slices.Clone(second)
	spoil(first, with)
	_ = append(first, with)
	if !slices.Equal(second, was) || slices.Contains(second[:cap(second)], with) {
		t.Errorf("R11: two answers of %s share memory: %v", name, second)
	}
	spoil(second, with)
	if third := call(); !slices.Equal(third, was) || slices.Contains(third[:cap(third)], with) {
		t.Errorf("R11: %s, written over: %v, want %v", name, third, was)
	}
}

// R11: answers are new memory, the room behind them too.
func TestAnswersAreNew(t *testing.T) {
	b := loaded(t, tries)
	for n := -1; n <= b.Count(); n++ {
		fresh(t, fmt.Sprintf("Cited(%d)", n), -99, func() []int {
			l, _ := Cited(b, n)
			return l
		})
		fresh(t, fmt.Sprintf("Named(%d)", n), "spoilt", func() []string {
			l, _ := Named(b, n)
			return l
		})
		fresh(t, fmt.Sprintf("Axioms(%d)", n), -99, func() []int {
			l, _ := Axioms(b, n)
			return l
		})
	}
	for _, label := range labels {
		fresh(t, fmt.Sprintf("Users(%q)", label), -99, func() []int { return Users(b, label) })
	}
}

// answers gives all answers about a base, as texts; backwards asks in another order, and writes over what it is told.
func answers(b *base.Base, backwards bool) []string {
	all := make([]string, b.Count()+len(labels))
	for i := range all {
		if backwards {
			i = len(all) - 1 - i
		}
		if i >= b.Count() {
			users := Users(b, labels[i-b.Count()])
			all[i] = fmt.Sprint(users)
			spoil(users, -99)
			continue
		}
		named, namedCode := Named(b, i)
		cited, citedCode := Cited(b, i)
		axioms, axiomsCode := Axioms(b, i)
		all[i] = fmt.Sprint(named, namedCode, cited, citedCode, axioms, axiomsCode, slices.Collect(Walk(b, i)))
		spoil(named, "spoilt")
		spoil(cited, -99)
		spoil(axioms, -99)
	}
	return all
}

// R13: nothing is kept from call to call: asked in any order, and by many at a time, each call answers as one alone.
func TestOneAnswer(t *testing.T) {
	b := loaded(t, tries)
	want := answers(b, false)
	came := make(chan []string)
	for i := range 8 {
		go func() { came <- answers(b, i%2 == 0) }()
	}
	for range 8 {
		if got := <-came; !slices.Equal(got, want) {
			t.Errorf("R13: %q, want %q", got, want)
		}
	}
}

// R11: the base is not changed, whatever is asked and whatever is done with the answers.
func TestBaseStays(t *testing.T) {
	b, other := loaded(t, tries), loaded(t, tries)
	for n := -1; n <= b.Count(); n++ {
		cited, _ := Cited(b, n)
		named, _ := Named(b, n)
		axioms, _ := Axioms(b, n)
		firstOf(Walk(b, n), 2)
		spoil(cited, -99)
		spoil(named, "spoilt")
		spoil(axioms, -99)
	}
	for _, label := range labels {
		spoil(Users(b, label), -99)
	}
	for n := range other.Count() {
		got, _ := b.At(n)
		want, _ := other.At(n)
		if !reflect.DeepEqual(got, want) {
			t.Errorf("R11: calls made %v of the assertion %v", got, want)
		}
	}
	if b.Text() != tries || !reflect.DeepEqual(b.Stmts(), other.Stmts()) {
		t.Error("R11: calls changed the base's text")
	}
}
