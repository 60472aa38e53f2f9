package syntax

import (
	"math"
	"strings"
	"testing"

	"lemma/api"
	"lemma/base"
)

// essential gives a hypothesis that a context may have, whatever its words are.
func essential(b *base.Base, label, words string) api.Hyp {
	return api.Hyp{Label: label, Var: -1, Expr: read(b, words)}
}

// A leaf: floating or essential, the first of its label, of any expression.
func TestLeaves(t *testing.T) {
	b := loaded(t, begin)
	for _, x := range []struct {
		name  string
		hyps  string // label: words; ..
		words string
		want  answer
	}{
		{"one", "e: wff (", "wff (", answer{"e", 1}},
		{"no other string", "e: wff (", "wff )", none},
		{"no other length", "e: wff (", "wff", none},
		{"no other length", "e: wff ( (", "wff (", none},
		{"no other type", "e: -> (", "wff (", none},
		{"two of one expression", "f: wff ( ; e: wff (", "wff (", answer{"f", 2}},
		{"two of one label", "e: wff ( ; e: wff )", "wff (", answer{"e", 1}},
		{"the second of a label", "e: wff ( ; e: wff )", "wff )", none},
		{"twice the same", "e: wff ( ; e: wff (", "wff (", answer{"e", 1}},
		{"the second of a label, a third", "e: wff ( ; e: wff ) ; f: wff )", "wff )", answer{"f", 1}},
		{"the first has no symbol", "e: ; e: wff )", "wff )", none},
		{"no name", "e!: wff (", "wff (", none},
		{"no name", "?: wff (", "wff (", none},
		{"no name", "$: wff (", "wff (", none},
		{"too long a name", strings.Repeat("e", 33) + ": wff (", "wff (", none},
		{"a long name", strings.Repeat("e", 32) + ": wff (", "wff (", answer{strings.Repeat("e", 32), 1}},
		{"no name, then one", "?: wff ( ; e: wff (", "wff (", answer{"e", 1}},
		{"a label of the base's, another expression", "wx: wff (", "wff (", answer{"wx", 1}},
		{"none of the base's", "", "wff x", none},
		{"a rule's label", "wi: wff x", "wff ( x -> x )", none},
		{"a rule's label", "wi: wff x", "wff x", answer{"wi", 1}},
		{"a rule's label, another rule", "wi: wff x", "wff x x", answer{"wi wi ws", 1}},
		{"a rule's label, the second of it", "e: wff x ; f: wff x ; wi: ( ; wi: wff y", "wff ( x -> x )", none},
		{"a rule's label, no symbol", "e: wff x ; ws: ", "wff x x", none},
		{"in a rule", "e: wff x -> ; f: wff y", "wff ( x -> -> y )", answer{"e f wi", 1}},
		{"a string that begins another", "e: wff x ; f: wff x x", "wff x x", answer{"f", 2}},
		{"a whole string and its parts", "e: wff x ; f: wff x x", "wff x x x", answer{"e f ws", 4}},
		{"a type alone", "e: wff", "( x", none},
		{"a type alone", "e: wff ; f: wff x", "wff ( x -> )", answer{"f e wi", 257}},
		{"no type, one symbol", "e: x", "x", answer{"e", 1}},
		{"no type", "e: x y wff", "x y wff", answer{"e", 1}},
		{"no symbol", "e: ", "", answer{"e", 1}},
		{"no symbol, two leaves", "g: ; e: ", "", answer{"g", 2}},
		{"no symbol, and a symbol", "e: ; f: wff", "", answer{"e", 1}},
		{"no leaf of no symbol", "e: wff ; f: x", "", none},
		{"a leaf of no symbol is no empty string", "e: ; f: wff x", "wff ( x -> )", none},
		{"unknown symbols", "e: unknown who", "unknown who", answer{"e", 1}},
		{"unknown symbols, others", "e: unknown who", "who unknown", none},
		{"unknown symbols, behind a type", "e: wff who unknown", "wff ( who unknown -> who unknown )", answer{"e e wi", 1}},
	} {
		c := api.Context{Before: 2}
		for _, hyp := range strings.Split(x.hyps, ";") {
			if label, words, is := strings.Cut(strings.TrimSpace(hyp), ":"); is {
				c.Hyps = append(c.Hyps, essential(b, label, words))
			}
		}
		if got := says(t, b, c, read(b, x.words)); got != x.want {
			t.Errorf("21.1 to 21.3: %s: of %q by %q: %+v, want %+v", x.name, x.words, x.hyps, got, x.want)
		}
		for i := range c.Hyps {
			c.Hyps[i].Floating, c.Hyps[i].Var = true, i*1000
		}
		if got := says(t, b, c, read(b, x.words)); got != x.want {
			t.Errorf("21.1 to 21.3: %s, called floating: of %q by %q: %+v, want %+v", x.name, x.words, x.hyps, got, x.want)
		}
	}
}

// Symbols that the base does not know are symbols like others, in leaves and beside them.
func TestUnknownSymbols(t *testing.T) {
	b := loaded(t, begin)
	c := at(t, b, 2)
	wff, _ := b.Number("wff")
	x, _ := b.Number("x")
	odd := []int{math.MinInt, -2, -1, b.Symbols(), b.Symbols() + 1, 1 << 40, math.MaxInt}
	for _, n := range odd {
		for _, e := range []api.Expr{{n}, {wff, n}, {n, x}, {wff, x, n}, {wff, n, x}, {n, n}} {
			if got := says(t, b, c, e); got != none {
				t.Errorf("21.2: of %v: %+v", e, got)
			}
			with := c
			with.Hyps = append([]api.Hyp{{Label: "e", Var: -1, Expr: e}}, c.Hyps...)
			if got := says(t, b, with, e); got.proof != "e" || got.ways != 1 {
				t.Errorf("21.2: of %v, which is a leaf: %+v", e, got)
			}
		}
	}
	c.Hyps = append(c.Hyps, api.Hyp{Label: "e", Var: 7, Expr: api.Expr{wff, -1}}, api.Hyp{Label: "f", Expr: api.Expr{-1, -1}})
	if got := says(t, b, c, api.Expr{wff, x, -1, x}); got != (answer{"wx e wx ws ws", 2}) {
		t.Errorf("21.2: %+v", got)
	}
	if got := says(t, b, c, api.Expr{-1, -1}); got != (answer{"f", 1}) {
		t.Errorf("21.2: %+v", got)
	}
}

// Before: 0, below and above the base's count; an assertion is none in its own context.
func TestBefore(t *testing.T) {
	b := loaded(t, begin)
	for _, before := range []int{math.MinInt, -1 << 40, -2, -1, 0} {
		sayIs(t, b, at(t, b, before), "wff x", answer{"wx", 1})
		sayIs(t, b, at(t, b, before), "wff ( x -> y )", none)
		sayIs(t, b, at(t, b, before), "wff", none)
	}
	for _, before := range []int{3, 4, 99, 1 << 40, math.MaxInt} {
		sayIs(t, b, at(t, b, before), "wff", answer{"w0", 257})
		sayIs(t, b, at(t, b, before), "wff ( -> )", answer{"w0 w0 wi", 257})
	}
	b = loaded(t, "$c t ( $. $v x $. hx $f t x $. a $a t ( x $. p $p t ( x $= ? $. q $a t ( x $.")
	for n, want := range []answer{none, {"hx a", 1}, {"hx a", 2}} {
		c, _ := b.Context(n)
		sayIs(t, b, c, "t ( x", want)
	}
	c, _ := b.Behind(1, nil)
	sayIs(t, b, c, "t ( x", answer{"hx a", 3})
}

// A base with nothing in it, and a context with nothing in it.
func TestNothing(t *testing.T) {
	b := loaded(t, "")
	for _, before := range []int{-1, 0, 1, 99} {
		c := api.Context{Before: before}
		for _, e := range []api.Expr{nil, {}, {0}, {1, 2}, {-1}, make(api.Expr, 32)} {
			if got := says(t, b, c, e); got != none {
				t.Errorf("21.2: of %v: %+v", e, got)
			}
			with := c
			with.Hyps = []api.Hyp{{Label: "e", Expr: e}}
			if got := says(t, b, with, e); got != (answer{"e", 1}) {
				t.Errorf("21.2: of %v, which is a leaf: %+v", e, got)
			}
		}
		longIs(t, b, c, make(api.Expr, 33))
	}
	b = loaded(t, begin)
	for _, words := range []string{"", "wff", "wff x", "wff ( x -> y )", "x"} {
		sayIs(t, b, api.Context{}, words, none)
	}
}

// 21.5: Goal, Pairs and Mandatory are not looked at.
func TestNotLookedAt(t *testing.T) {
	b := loaded(t, begin)
	for _, before := range []int{1, 2, 3} {
		for _, words := range strings.Split(",wff,wff x,wff x y z,wff ( x -> ( y -> x ) ),wff ( x -> ),x", ",") {
			c := at(t, b, before)
			want := says(t, b, c, read(b, words))
			for _, goal := range []api.Expr{nil, {}, {0}, {-1}, read(b, "wff x"), make(api.Expr, 1000)} {
				c.Goal = goal
				sayIs(t, b, c, words, want)
			}
			for _, mandatory := range [][]api.Hyp{nil, c.Hyps, c.Hyps[1:], {essential(b, "wi", "wff x")}, {essential(b, "e", words)}} {
				c.Mandatory = mandatory
				sayIs(t, b, c, words, want)
			}
			for _, pairs := range [][]api.Pair{nil, {{A: 0, B: 0}}, {{A: 5, B: 6}, {A: 6, B: 5}, {A: -1, B: 99}}} {
				c.Pairs = pairs
				sayIs(t, b, c, words, want)
			}
		}
	}
}

// 21.5: hypotheses and assertions that are neither leaves nor rules may come and go.
func TestOthersComeAndGo(t *testing.T) {
	const begun = "$c wff ( ) -> |- $. $v x y z $. wx $f wff x $. wy $f wff y $. wz $f wff z $. "
	bare := loaded(t, begun+"wi $a wff ( x -> y ) $. ws $a wff x y $. w0 $a wff ( $. last $a |- -> $.")
	full := loaded(t, begun+`a0 $a wff x x $. ${ d0 $e wff $. d1 $a wff $. $} wi $a wff ( x -> y ) $.
${ $d x y $. d2 $a wff ) x y $. $} ${ e2 $e |- x $. e3 $a wff x $. $} ws $a wff x y $. p $p |- ( x -> x ) $= ? $.
q $p wff x x x $= wx wx ws wx ws $. w0 $a wff ( $. ${ $d x y z $. d3 $a wff x y $. $} last $a |- -> $.`)
	all := strings.Split("wff,wff x,wff x x,wff x x x,wff ) x y,wff ( x -> x ),wff ( ( x -> y ),|- ->,|- ( x -> x ),wff x y z ( x,wff ( ( ( ( (,wff ( -> )", ",")
	found := 0
	for _, words := range all {
		few := at(t, bare, bare.Count())
		many := at(t, full, full.Count())
		want := says(t, bare, few, read(bare, words))
		sayIs(t, full, many, words, want)
		many.Hyps = []api.Hyp{essential(full, "?", words), few.Hyps[0], essential(full, "wx", words), essential(full, "a b", words), few.Hyps[1], essential(full, "", words), few.Hyps[2], essential(full, "wz", "wff (")}
		sayIs(t, full, many, words, want)
		if want != none {
			found++
		}
	}
	if found != 8 {
		t.Errorf("%d of %d were derived", found, len(all))
	}
}
