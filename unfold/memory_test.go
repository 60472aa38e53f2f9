package unfold

import (
	"reflect"
	"slices"
	"strings"
	"testing"

	"lemma/api"
)

// spoil writes over a list and the room behind it.
func spoil(l []string) {
	l = l[:cap(l)]
	for i := range l {
		l[i] = "spoilt"
	}
}

// tries is a text with theorems of all sorts.
var tries = bare + `t1 $p w $= g j j $. t2 $p w $= ( g d ) CZEDZFD $. t3 $p w $= h $. t4 $p w $= ( ) A $. t5 $p w $= ? $. t6 $p w $= ` + doubling(50) + ` $. t7 $p w $= ` + doubling(8) + ` $. $}`

// 15.6: answers are new memory, the room behind them too: written over, they change no other answer and no later one.
func TestAnswersAreNew(t *testing.T) {
	b := loaded(t, tries)
	for n := range b.Count() {
		first, _ := Plain(b, n)
		second, _ := Plain(b, n)
		was := slices.Clone(second)
		spoil(first)
		if !slices.Equal(second, was) || slices.Contains(second[:cap(second)], "spoilt") {
			t.Errorf("15.6: two answers of Plain(%d) share memory: %.200q", n, second)
		}
		spoil(second)
		third, _ := Plain(b, n)
		if !slices.Equal(third, was) || slices.Contains(third[:cap(third)], "spoilt") {
			t.Errorf("15.6: Plain(%d), written over: %.200q, want %.200q", n, third, was)
		}
		text, code := Text(b, n)
		if code == api.OK && !slices.Equal(strings.Fields(text), was) {
			t.Errorf("15.6: Text(%d) behind an answer that was written over: %.200q", n, text)
		}
	}
}

// 15.6: what is appended to an answer reaches no other.
func TestAppended(t *testing.T) {
	b := loaded(t, tries)
	n := numberOf(t, b, "t2")
	first, _ := Plain(b, n)
	second, _ := Plain(b, n)
	_ = append(first, "behind")
	if slices.Contains(second[:cap(second)], "behind") {
		t.Errorf("15.6: the room behind two answers is one: %q", second[:cap(second)])
	}
}

// 15.6: the base is not changed, whatever is asked and whatever is done with the answers.
func TestBaseStays(t *testing.T) {
	b, fresh := loaded(t, tries), loaded(t, tries)
	for n := -1; n <= b.Count(); n++ {
		Count(b, n)
		Text(b, n)
		labels, _ := Plain(b, n)
		spoil(labels)
	}
	for n := range fresh.Count() {
		got, _ := b.At(n)
		want, _ := fresh.At(n)
		if !reflect.DeepEqual(got, want) {
			t.Errorf("15.6: calls made %v of the assertion %v", got, want)
		}
	}
	if b.Text() != tries || !reflect.DeepEqual(b.Stmts(), fresh.Stmts()) {
		t.Error("15.6: calls changed the base's text")
	}
}

// R13: nothing is kept from call to call: asked in any order, of two bases in turns, and by many at a time, each call answers as one alone.
func TestOneAnswer(t *testing.T) {
	b, other := loaded(t, tries), loaded(t, theory)
	ask := func(backwards bool) []string {
		all := make([]string, b.Count())
		for i := range all {
			n := i
			if backwards {
				n = len(all) - 1 - i
				Text(other, n)
			}
			text, _ := Text(b, n)
			count, code := Count(b, n)
			all[n] = text + " " + letters(count) + " " + letters(int(code))
		}
		return all
	}
	want := ask(false)
	answers := make(chan []string)
	for i := range 8 {
		go func() { answers <- ask(i%2 == 0) }()
	}
	for range 8 {
		if got := <-answers; !slices.Equal(got, want) {
			t.Errorf("R13: %.300q, want %.300q", got, want)
		}
	}
}
