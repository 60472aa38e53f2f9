package prune

import (
	"fmt"
	"reflect"
	"slices"
	"strings"
	"testing"

	"lemma/api"
	"lemma/base"
)

// spoil writes over a list and the room behind it.
func spoil(l []int) {
	l = l[:cap(l)]
	for i := range l {
		l[i] = -99
	}
}

// tries is a text of theorems of all sorts.
const tries = `$c w $. $v x $. fx $f w x $. g $a w $. ${ h $e w $. t1 $p w x $= h j ? $. j $a w $. t2 $p w $= ( t1 g ) C $. $}
t3 $p w $= t2 t3 $. t4 $p w $= ( g j $. $( t3 $) t5 $p w $= g $. t6 $p w $= ( t5 t8 ) A $. t7 $p w $= fx $. t8 $p w $= t6 $.
`

// 18.6: the numbers are new memory, the room behind them too: written over, they change no other answer and no later one.
func TestAnswersAreNew(t *testing.T) {
	b := loaded(t, tries)
	for n := range b.Count() {
		first, _ := Falls(b, n)
		second, _ := Falls(b, n)
		was := slices.Clone(second)
		text, _ := Without(b, n)
		spoil(first)
		_ = append(first, -98)
		if !slices.Equal(second, was) || slices.Contains(second[:cap(second)], -99) {
			t.Errorf("18.6: two answers of Falls(%d) share memory: %v", n, second)
		}
		spoil(second)
		if third, _ := Falls(b, n); !slices.Equal(third, was) || slices.Contains(third[:cap(third)], -99) {
			t.Errorf("18.6: Falls(%d), written over: %v, want %v", n, third, was)
		}
		if again, _ := Without(b, n); again != text {
			t.Errorf("18.6: Without(%d), with the numbers written over: %q, want %q", n, again, text)
		}
	}
}

// 18.6: the base is not changed, whatever is asked and whatever is done with the answers.
func TestBaseStays(t *testing.T) {
	b, other := loaded(t, tries), loaded(t, tries)
	for n := -1; n <= b.Count(); n++ {
		numbers, _ := Falls(b, n)
		spoil(numbers)
		Without(b, n)
	}
	for n := range other.Count() {
		got, _ := b.At(n)
		want, _ := other.At(n)
		if !reflect.DeepEqual(got, want) {
			t.Errorf("18.6: calls made %v of the assertion %v", got, want)
		}
	}
	if b.Count() != other.Count() || b.Text() != tries || !reflect.DeepEqual(b.Stmts(), other.Stmts()) {
		t.Error("18.6: calls changed the base's text")
	}
}

// answers gives all answers about a base, as texts; backwards asks in another order.
func answers(b *base.Base, backwards bool) []string {
	all := make([]string, b.Count()+2)
	for i := range all {
		if backwards {
			i = len(all) - 1 - i
		}
		numbers, code := Falls(b, i-1)
		text, textCode := Without(b, i-1)
		all[i] = fmt.Sprint(numbers, code, text, textCode)
		spoil(numbers)
	}
	return all
}

// R13: nothing is kept from call to call, and no order in which a map is gone through is to be seen: asked in any order, often, and by many at a time, each call answers as one alone.
func TestOneAnswer(t *testing.T) {
	b := loaded(t, tries)
	want := answers(b, false)
	came := make(chan []string)
	for i := range 16 {
		go func() { came <- answers(b, i%2 == 0) }()
	}
	for range 16 {
		if got := <-came; !slices.Equal(got, want) {
			t.Errorf("R13: %q, want %q", got, want)
		}
	}
}

// R13: one base asked about behind another answers as one alone; a text hangs on the base's own.
func TestOneBaseBehindAnother(t *testing.T) {
	b := loaded(t, tries)
	other := loaded(t, strings.Replace(tries, "g $a w $.", "g $a w x $.", 1))
	for n := range b.Count() {
		first, _ := Without(b, n)
		second, _ := Without(other, n)
		again, code := Without(loaded(t, tries), n)
		if first != again || code != api.OK || second == first && strings.Contains(first, "g $a") {
			t.Errorf("R13: Without(%d): %q, %q", n, first, second)
		}
	}
}
