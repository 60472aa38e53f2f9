package prune

import (
	"fmt"
	"slices"
	"strings"
	"testing"

	"lemma/base"
)

// piece is a stretch of a text: the statement of an assertion, which has a label, or what stands between two of them.
type piece struct {
	text  string
	label string
	words []string // of its proof
}

// model is a text by its pieces, from which the second reading is read.
type model []piece

func (m model) text() string { return m.without(nil) }

// without is a second reading of 18.2: the text without the assertions of these numbers.
func (m model) without(gone group) string {
	var text strings.Builder
	n := 0
	for _, p := range m {
		if p.label == "" || !gone[n] {
			text.WriteString(p.text)
		}
		if p.label != "" {
			n++
		}
	}
	return text.String()
}

// named is a second reading of what a proof names: its words, or those in the brackets.
func named(words []string) []string {
	if len(words) == 0 || words[0] != "(" {
		return words
	}
	if end := slices.Index(words, ")"); end > 0 {
		return words[1:end]
	}
	return words[1:]
}

// asserted gives the pieces that are assertions' statements, by their numbers, and their labels.
func (m model) asserted() ([]piece, []string) {
	var pieces []piece
	var labels []string
	for _, p := range m {
		if p.label != "" {
			pieces = append(pieces, p)
			labels = append(labels, p.label)
		}
	}
	return pieces, labels
}

// gone is a second reading of 18.1: one more is taken in as long as there is one that names what went.
func (m model) gone(n int) group {
	pieces, labels := m.asserted()
	gone := group{n: true}
	for more := true; more; {
		more = false
		for k, p := range pieces {
			for _, word := range named(p.words) {
				if gone[slices.Index(labels, word)] && !gone[k] {
					gone[k], more = true, true
				}
			}
		}
	}
	return gone
}

// holds holds both calls about all numbers against the second reading, what is left against what was, and what two leave against either order. It tells how many pairs these were.
func (m model) holds(t *testing.T) int {
	t.Helper()
	b := loaded(t, m.text())
	var falls []group
	var left []*base.Base
	for n := range b.Count() {
		gone := m.gone(n)
		var want []int
		for k := range b.Count() {
			if gone[k] {
				want = append(want, k)
			}
		}
		fallsIs(t, b, n, want...)
		withoutIs(t, b, n, m.without(gone))
		falls = append(falls, gone)
		left = append(left, staysHold(t, b, n))
	}
	pairs := 0
	for n := range b.Count() {
		for k := range n {
			if !falls[n][k] && !falls[k][n] {
				m.eitherOrder(t, b, left, falls, n, k)
				pairs++
			}
		}
	}
	return pairs
}

// eitherOrder holds two that do not go with each other to leave one text, whichever goes first.
func (m model) eitherOrder(t *testing.T, b *base.Base, left []*base.Base, falls []group, n, k int) {
	t.Helper()
	both := group{}
	for _, gone := range []group{falls[n], falls[k]} {
		for i := range gone {
			both[i] = true
		}
	}
	want := m.without(both)
	first, _ := b.At(n)
	second, _ := b.At(k)
	withoutIs(t, left[n], numberOf(t, left[n], second.Label), want)
	withoutIs(t, left[k], numberOf(t, left[k], first.Label), want)
}

// wordsOf writes a proof that names these labels, in one of several ways.
func wordsOf(labels []string, way int) []string {
	switch way % 4 {
	case 0:
		return labels
	case 1:
		return slices.Concat([]string{"("}, labels, []string{")", "A"})
	case 2:
		return slices.Concat([]string{"("}, labels)
	default:
		return slices.Concat([]string{"?"}, labels, labels)
	}
}

// 18.1 to 18.5: all ways in which three theorems may name one another, themselves and an axiom, which stands ahead of them, between them or behind them.
func TestAllWaysOfNaming(t *testing.T) {
	pairs := 0
	for way := range 1 << 12 {
		labels := slices.Insert([]string{"t0", "t1", "t2"}, way%5%4, "a")
		m := model{{text: "$c w $.\n"}}
		for _, label := range labels {
			p := piece{label: label, text: "a $a w $."}
			if label != "a" {
				n := int(label[1] - '0')
				var names []string
				for i, other := range []string{"a", "t0", "t1", "t2"} {
					if way>>(4*n+i)&1 == 1 {
						names = append(names, other)
					}
				}
				p.words = wordsOf(names, way/7+n)
				p.text = fmt.Sprintf("%s $p w $= %s $.", label, strings.Join(p.words, " "))
			}
			m = append(m, p, piece{text: " \n"})
		}
		pairs += m.holds(t)
		if t.Failed() {
			t.Fatalf("in the text %s", m.text())
		}
	}
	if pairs < 500 {
		t.Errorf("%d pairs that do not go with each other: it is hardly tried", pairs)
	}
}
