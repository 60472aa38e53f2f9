package tree

import (
	"math"
	"slices"
	"strings"
	"testing"

	"lemma/api"
)

// noLists are lists that are none: empty, a kid below 0, its own number, above; at the first node, at the last, and at one that the last does not lean on.
var noLists = []string{
	"", "a 0", "a 1", "a -1", "a; a 1", "a; a 2", "a; a -1", "a; b 0 1", "a; b 0 0 -7 0", "a; b 0; c 1 2", "a; b 0; c 3 1 0",
	"a; b 5; c", "a 0; c", "a -1; c", "a; b 1; c 0", "a; b 0 -1; c 0", "a; b 2; c 0", "a; b 0; c 9; d 1 0; e",
	"a; b 9223372036854775807", "a; b -9223372036854775808", "a -9223372036854775808; b",
}

// P13.2 to P13.7, P13.10: lists that are none, in every call.
func TestNoLists(t *testing.T) {
	b := loaded(t, "$c w $. a $a w $. ${ h $e w $. b $a w $. c $a w $. $} d $a w $. e $a w $. t $p w $= a $.")
	c := contextOf(t, b, "t")
	for _, words := range noLists {
		l := nodes(words)
		concluded(t, b, c, l, "-")
		if Size(l) != 0 || Depth(l) != 0 {
			t.Errorf("P13.3, P13.4: of %q: %d, %d", words, Size(l), Depth(l))
		}
		if labels, small := Labels(l); small || len(labels) != 0 {
			t.Errorf("P13.5: of %q: %q, %v", words, labels, small)
		}
		if shared := Share(l); len(shared) != 0 || len(Share(shared)) != 0 || Size(shared) != 0 || Depth(shared) != 0 {
			t.Errorf("P13.6, P13.10: of %q: %q", words, text(shared))
		}
		if Same(l, l) || Same(l, nodes("a")) || Same(nodes("a"), l) || Same(l, nodes("")) || Same(l, Share(l)) || Same(l, nodes(words+"; a")) {
			t.Errorf("P13.7: %q is the same as something", words)
		}
	}
}

// P13.2: what each node proves, in order, those too that do not belong to the last one's derivation.
func TestConclude(t *testing.T) {
	b := loaded(t, many)
	c := contextOf(t, b, "t")
	concluded(t, b, c, nodes("wx; wy; wi 0 1"), "wff x, wff y, wff ( x -> y )")
	concluded(t, b, c, nodes("wz"), "wff z")
	concluded(t, b, c, nodes("none; dd 0; wi 1 0; wy"), "wff ( ), wff ( ) ( ), wff ( ( ) ( ) -> ( ) ), wff y")
	concluded(t, b, c, nodes("wy; wx; wi 0 1; wi 2 2; wi 1 3"), "wff y, wff x, wff ( y -> x ), wff ( ( y -> x ) -> ( y -> x ) ), wff ( x -> ( ( y -> x ) -> ( y -> x ) ) )")
	concluded(t, b, c, nodes("none; none; dp 0 1; dp 2 0"), "wff ( ), wff ( ), wff ( ) ( ), wff ( ) ( ) ( )")
	inside := contextOf(t, b, "in")
	concluded(t, b, inside, nodes("hx; wz; wx"), "|- x, wff z, wff x")
	b = loaded(t, chapter)
	c = contextOf(t, b, "t")
	concluded(t, b, c, nodes("w; wy; mp 0 0 0; mp 1 1 1; mp 2 0 2; wy"), "w x, w y, w x, w y, w x, w y")
}

// P13.2: each error, at the last node and at one that it does not lean on.
func TestConcludeErrors(t *testing.T) {
	b := loaded(t, many)
	c := contextOf(t, b, "t")
	inside := contextOf(t, b, "in")
	for _, l := range []string{
		"no", "?", "x", "min", "hx", "t", "late", "wx; late 0", // no label that may be used
		"wx; wy 0", "wx; wy; wx 0 1", // a hypothesis with kids
		"wx; wi 0", "wi", "wx; wi 0 0 0", "none; none 0", "wx; dd", "wx; dd 0 0", // too few and too many
		"wx; wy; dp 0 1", "wx; dp 0 0", // pairs
		"none; dd 0; dd 1; dd 2; dd 3; dd 4; dd 5; dd 6", // too long
	} {
		concluded(t, b, c, nodes(l), "-")
		concluded(t, b, c, nodes(l+"; wx"), "-")
		concluded(t, b, c, append(nodes(l), api.Node{Label: "wi", Kids: []int{0, 0}}), "-")
	}
	for _, l := range []string{"hx; wx; wi 1 0", "hx; dd 0", "hx; wx; wy; mp 1 2 0 0", "hx; wx; wy; mp 1 2 1 0", "hx; wx; wy; mp 0 2 0 0", "hx; wx 0", "in", "min", "maj"} {
		concluded(t, b, inside, nodes(l), "-")
		concluded(t, b, inside, nodes(l+"; wx"), "-")
	}
	fits := nodes("none; dd 0; dd 1; dd 2; dd 3; dd 4; dd 5")
	if proved, code := Conclude(b, c, fits); code != api.OK || len(proved[6]) != 129 {
		t.Errorf("P13.2: 129 symbols: %d", code)
	}
}

// P13.2: MaxExpr symbols and one more.
func TestConcludeLimit(t *testing.T) {
	b := loaded(t, "$c w $. $v x y $. wx $f w x $. wy $f w y $. two $a w x y $. t $p w x $= ? $.")
	c := contextOf(t, b, "t")
	for length, code := range map[int]api.Errno{98: api.OK, 99: api.OK, 100: api.ErrTree, 101: api.ErrTree, 400: api.ErrTree} {
		h := api.Hyp{Label: "h", Expr: slices.Repeat([]int{0}, 1+length)}
		g := api.Hyp{Label: "g", Expr: slices.Repeat([]int{0}, 1+100)}
		c.Hyps = []api.Hyp{h, g}
		proved, got := Conclude(b, c, nodes("h; g; two 0 1"))
		if got != code || code == api.OK && len(proved[2]) != 101+length {
			t.Errorf("P13.2: %d and 100 symbols: %d", length, got)
		}
		_, got = Of(b, c, parsed("h g two"))
		if got != code {
			t.Errorf("P13.1: %d and 100 symbols: %d", length, got)
		}
	}
}

// P13.1, P13.2: of two hypotheses of one label the first counts, and a context's hypotheses come ahead of the base's assertions.
func TestHypothesesFirst(t *testing.T) {
	b := loaded(t, many)
	c := contextOf(t, b, "t")
	x, _ := b.Number("x")
	wff, _ := b.Number("wff")
	c.Hyps = slices.Concat([]api.Hyp{{Label: "two", Expr: []int{wff, x, x}}, {Label: "wi", Expr: []int{wff}}, {Label: "late", Expr: []int{wff, wff}}, {Label: "min"}, {Label: "?", Expr: []int{wff, x}}, {Label: "", Expr: []int{-1}}}, c.Hyps, []api.Hyp{{Label: "two", Expr: []int{5}}, {Label: "wx", Expr: []int{6}}})
	concluded(t, b, c, nodes("two; wi; late; min; ?; wx"), "wff x x, wff, wff wff, , wff x, wff x")
	concluded(t, b, c, nodes("wx; wi 0 0"), "-")
	concluded(t, b, c, nodes("wi; dd 0; dd 1"), "wff, wff, wff")
	concluded(t, b, c, []api.Node{{Label: ""}, {Label: "two"}}, "?, wff x x")
	ofIs(t, b, c, parsed("wi"), "wi")
	ofIs(t, b, c, parsed("wx wy wi"), "")
	ofIs(t, b, c, parsed("late dd"), "late; dd 0")
	ofIs(t, b, c, parsed("min"), "min")
	ofIs(t, b, c, parsed("min dd"), "")
	ofIs(t, b, c, parsed("wx two dd dp"), "")
	ofIs(t, b, c, parsed("two none dp"), "two; none; dp 0 1")
	// "?" in a plain proof is a step that is left open, whatever the context has under it; in the brackets it is a word like others.
	ofIs(t, b, c, parsed("?"), "")
	ofIs(t, b, c, parsed("? dd"), "")
	ofIs(t, b, c, parsed("( ? dd ) CD"), "?; dd 0")
	ofIs(t, b, c, parsed("( two wi ) C"), "two")
	ofIs(t, b, c, parsed("( two two ) C"), "")
	if l, code := Of(b, c, api.Proof{Form: api.FormPacked, Labels: tokens(""), Codes: coded(2)}); code != api.OK || len(l) != 1 || l[0].Label != "" {
		t.Errorf("P13.1: a label without a letter: %v, %d", l, code)
	}
}

// P13.1: a number of a mandatory hypothesis lays what stands in Mandatory, by its label, whatever Hyps has under it.
func TestMandatoryIsTaken(t *testing.T) {
	b := loaded(t, many)
	c := contextOf(t, b, "t")
	wff, _ := b.Number("wff")
	bar, _ := b.Number("|-")
	c.Mandatory = []api.Hyp{{Label: "new", Expr: []int{wff}}, {Label: "wx", Expr: []int{bar}}, {Label: "new"}, {Label: "late", Expr: slices.Repeat([]int{wff}, 300)}}
	ofIs(t, b, c, parsed("( dd ) A"), "new")
	ofIs(t, b, c, parsed("( dd ) B"), "wx")
	ofIs(t, b, c, parsed("( dd ) C"), "new")
	ofIs(t, b, c, parsed("( dd ) D"), "late")
	ofIs(t, b, c, parsed("( dd ) AE"), "new; dd 0")
	ofIs(t, b, c, parsed("( dd ) BE"), "")
	ofIs(t, b, c, parsed("( dd ) CE"), "")
	ofIs(t, b, c, parsed("( dd ) DE"), "")
	ofIs(t, b, c, parsed("( wi ) AZFE"), "new; wi 0 0")
	ofIs(t, b, c, parsed("wx dd"), "wx; dd 0")
	// At a word in the brackets that is a mandatory hypothesis's label there is always an error.
	for _, label := range []string{"new", "wx", "late"} {
		ofIs(t, b, c, parsed("( "+label+" ) A"), "")
	}
	ofIs(t, b, c, parsed("( wy ) E"), "wy")
	concluded(t, b, c, nodes("new"), "-")
	concluded(t, b, c, nodes("wx"), "wff x")
}

// P13.1, P13.2: Before may be any number.
func TestBefore(t *testing.T) {
	b := loaded(t, many)
	c := contextOf(t, b, "t")
	n, _ := b.Find("dd")
	for before, may := range map[int]bool{math.MinInt: false, -1: false, 0: false, n: false, n + 1: true, 1000: true, math.MaxInt: true} {
		c.Before = before
		if may {
			ofIs(t, b, c, parsed("wx dd"), "wx; dd 0")
			ofIs(t, b, c, parsed("( dd ) A"), "wx")
			concluded(t, b, c, nodes("wx; dd 0"), "wff x, wff x x")
		} else {
			ofIs(t, b, c, parsed("wx dd"), "")
			ofIs(t, b, c, parsed("( dd ) A"), "")
			concluded(t, b, c, nodes("wx; dd 0"), "-")
			concluded(t, b, c, nodes("wx; dd 0; wx"), "-")
		}
		ofIs(t, b, c, parsed("wx"), "wx")
	}
	c.Before = math.MaxInt
	concluded(t, b, c, nodes("wx; late 0; wx; wy; t 2 3"), "wff x, wff x, wff x, wff y, wff ( x -> y )")
	nothing := api.Context{}
	ofIs(t, b, nothing, parsed("none"), "")
	ofIs(t, b, nothing, parsed("wx"), "")
	concluded(t, b, nothing, nodes("none"), "-")
	nothing.Before = 99
	ofIs(t, b, nothing, parsed("none"), "none")
	concluded(t, b, nothing, nodes("none; dd 0"), "wff ( ), wff ( ) ( )")
}

// P13.1, P13.2: the context's pairs are a set of unordered pairs, of any numbers.
func TestPairs(t *testing.T) {
	b := loaded(t, many)
	c := contextOf(t, b, "t")
	x, _ := b.Number("x")
	y, _ := b.Number("y")
	for _, pairs := range [][]api.Pair{{{A: x, B: y}}, {{A: y, B: x}}, {{A: x, B: x}, {A: 99, B: -1}, {A: y, B: x}, {A: x, B: y}}} {
		c.Pairs = pairs
		ofIs(t, b, c, parsed("wx wy dp"), "wx; wy; dp 0 1")
		ofIs(t, b, c, parsed("( dp ) BAC"), "wy; wx; dp 0 1")
		ofIs(t, b, c, parsed("wx wz dp"), "")
		ofIs(t, b, c, parsed("wx wx dp"), "")
		concluded(t, b, c, nodes("wx; wy; dp 1 0"), "wff x, wff y, wff y x")
		concluded(t, b, c, nodes("wx; wy; dp 1 0; dp 2 0"), "-")
	}
	for _, pairs := range [][]api.Pair{nil, {}, {{A: x, B: x}, {A: y, B: y}}, {{A: x, B: y + 1}}} {
		c.Pairs = pairs
		ofIs(t, b, c, parsed("wx wy dp"), "")
		concluded(t, b, c, nodes("wx; wy; dp 1 0"), "-")
		concluded(t, b, c, nodes("none; wx; dp 1 0"), "wff ( ), wff x, wff x ( )")
	}
}

// P13.2: hypotheses are any lists: they prove what they are, and nothing else is asked of them.
func TestAnyHypotheses(t *testing.T) {
	b := loaded(t, chapter)
	odd := []api.Expr{nil, {-1}, {math.MaxInt, math.MinInt}, slices.Repeat([]int{3}, 1000)}
	var c api.Context
	for i, e := range odd {
		c.Hyps = append(c.Hyps, api.Hyp{Label: strings.Repeat("h", i), Expr: e, Floating: i%2 == 0, Var: -i})
	}
	l := []api.Node{{Label: "hhh"}, {Label: ""}, {Label: "hh"}, {Label: "h"}, {Label: ""}}
	proved, code := Conclude(b, c, l)
	if code != api.OK || len(proved) != len(l) {
		t.Fatalf("P13.2: odd hypotheses: %v, %d", proved, code)
	}
	for i, n := range []int{3, 0, 2, 1, 0} {
		if !slices.Equal(proved[i], odd[n]) {
			t.Errorf("P13.2: the hypothesis number %d proves %.60v", n, proved[i])
		}
	}
}
