package fold

import (
	"fmt"
	"math"
	"slices"
	"strconv"
	"strings"
	"testing"

	"lemma/api"
	"lemma/base"
	"lemma/proof"
	"lemma/verify"
)

// chapter is the base of the chapter's examples, that of chapter 12.
const chapter = `$c wff |- ( ) -> $. $v p q $. wp $f wff p $. wq $f wff q $. wi $a wff ( p -> q ) $.
a1 $a |- ( p -> ( q -> p ) ) $. t $p |- ( p -> ( p -> p ) ) $= wp wp a1 $.`

// bare is a logic of one string: whatever leaves one entry proves it. Of g, j, d and c the number of hypotheses is 0, 1, 2, 3; in the scope of its theorems h and i are mandatory, which numbers call A and B.
const bare = `$c w $. g $a w $. ${ e1 $e w $. j $a w $. e2 $e w $. d $a w $. e3 $e w $. c $a w $. $}
${ h $e w $. i $e w $.
`

// bareTheorem is bare with one theorem, the last assertion.
func bareTheorem(words string) string { return bare + "t $p w $= " + words + " $. $}" }

func loaded(t *testing.T, text string) *base.Base {
	t.Helper()
	b, fault := base.Load(text)
	if fault != nil {
		t.Fatalf("the text is refused: %v", *fault)
	}
	return b
}

// contextOf gives an assertion's context.
func contextOf(t *testing.T, b *base.Base, label string) api.Context {
	t.Helper()
	n, found := b.Find(label)
	c, code := b.Context(n)
	if !found || code != api.OK {
		t.Fatalf("no assertion: %q", label)
	}
	return c
}

// mandatory is a context of which nothing is known but the labels of its mandatory hypotheses.
func mandatory(labels ...string) api.Context {
	var c api.Context
	for _, label := range labels {
		c.Mandatory = append(c.Mandatory, api.Hyp{Label: label})
	}
	return c
}

// nodes reads a list: nodes parted by ";", each a label and the numbers of its kids.
func nodes(text string) []api.Node {
	var l []api.Node
	for _, words := range strings.Split(text, ";") {
		fields := strings.Fields(words)
		if len(fields) == 0 {
			continue
		}
		node := api.Node{Label: fields[0]}
		for _, field := range fields[1:] {
			kid, _ := strconv.Atoi(field)
			node.Kids = append(node.Kids, kid)
		}
		l = append(l, node)
	}
	return l
}

// numbersIn reads codes: numbers, and Z for a save.
func numbersIn(text string) []int {
	var all []int
	for _, field := range strings.Fields(text) {
		n, err := strconv.Atoi(field)
		if err != nil {
			n = api.CodeSave
		}
		all = append(all, n)
	}
	return all
}

// short shows the beginning of what may be long.
func short(what any) string { return fmt.Sprintf("%.300s", fmt.Sprint(what)) }

// foldsTo holds Nodes to answer these brackets and codes.
func foldsTo(t *testing.T, c api.Context, l []api.Node, listed, codes string) {
	t.Helper()
	gotListed, gotCodes, code := Nodes(c, l)
	if !slices.Equal(gotListed, strings.Fields(listed)) || !slices.Equal(gotCodes, numbersIn(codes)) || code != api.OK {
		t.Errorf("P16.1: Nodes(%s): %s, %s, %d, want %q, %s", short(l), short(gotListed), short(gotCodes), code, listed, codes)
	}
}

// noTree holds Nodes to answer ErrTree, and nothing beside it.
func noTree(t *testing.T, c api.Context, l []api.Node) {
	t.Helper()
	if listed, codes, code := Nodes(c, l); len(listed) != 0 || len(codes) != 0 || code != api.ErrTree {
		t.Errorf("P16.1: Nodes(%s): %s, %s, %d, want ErrTree", short(l), short(listed), short(codes), code)
	}
}

// refuses holds both calls about a number to answer an error, and nothing beside it.
func refuses(t *testing.T, b *base.Base, n int, want api.Errno) {
	t.Helper()
	if listed, codes, code := Packed(b, n); len(listed) != 0 || len(codes) != 0 || code != want {
		t.Errorf("R12: Packed(%d): %s, %s, %d, want %d", n, short(listed), short(codes), code, want)
	}
	if text, code := Text(b, n); text != "" || code != want {
		t.Errorf("R12: Text(%d): %s, %d, want %d", n, short(text), code, want)
	}
}

// P16.1: the chapter's examples 1 to 6.
func TestExamples(t *testing.T) {
	c := contextOf(t, loaded(t, chapter), "t")
	foldsTo(t, c, nodes("wp; wi 0 0"), "wi", "0 0 1")
	foldsTo(t, c, nodes("wp; wi 0 0; wi 1 1"), "wi", "0 0 1 Z 2 1")
	foldsTo(t, c, nodes("wp; wi 0 0; wi 1 1; wi 2 2"), "wi", "0 0 1 Z 2 1 Z 3 1")
	foldsTo(t, c, nodes("wp; wi 0 0; wp; wi 2 2; wi 1 3"), "wi", "0 0 1 Z 2 1")
	foldsTo(t, c, nodes("wp; wq; wi 0 1; wi 2 0"), "wq wi", "0 1 2 0 2")
	noTree(t, c, nil)
	noTree(t, c, nodes("wi 0"))
	noTree(t, c, nodes("wi -1"))
	foldsTo(t, c, nodes("wp; wi 5; wp"), "", "0")
}

// P16.1: the chapter's example 7.
func TestLabelsExamples(t *testing.T) {
	b := loaded(t, chapter)
	c := contextOf(t, b, "t")
	listed, codes, code := Labels(b, c, strings.Fields("wp wp wi wp wp wi wi"))
	if !slices.Equal(listed, []string{"wi"}) || !slices.Equal(codes, numbersIn("0 0 1 Z 2 1")) || code != api.OK {
		t.Errorf("P16.1: Labels: %q, %v, %d", listed, codes, code)
	}
	for want, labels := range map[api.Errno][]string{api.ErrTree: {"wp", "wp"}, api.ErrSteps: slices.Repeat([]string{"wp"}, 4001)} {
		if listed, codes, code := Labels(b, c, labels); len(listed) != 0 || len(codes) != 0 || code != want {
			t.Errorf("P16.1: Labels of %d labels: %q, %v, %d, want %d", len(labels), listed, codes, code, want)
		}
	}
}

// P16.1: a kid that is no earlier node's number, at nodes that the root leads to: the root, its kids, and deep below; the first kid, the last, and one between.
func TestNoTree(t *testing.T) {
	for _, c := range []api.Context{{}, mandatory("a"), mandatory("a", "b")} {
		noTree(t, c, []api.Node{})
		for _, text := range []string{
			"a 0", "a 1", "a -1", "a; b 1", "a; b 2", "a; b -1", "a; b 0 1", "a; b 0 0 -7 0", "a; b 0 0 5", "a; b 5 0 0", "a -1; b 0",
			"a; b 0; c 2", "a; b 1; c 1", "a; b 0 -1; c 1", "a; b 2; c 0 1", "a; b 2; c 1 0", "a; b 1; c 1; d 2; e 3", "a 0; b 0; c 1; d 2; e 0 3",
			"a; x 9; b 0; c 0 1 2", "a; b 9223372036854775807", "a; b -9223372036854775808", "a -9223372036854775808; b 0",
		} {
			noTree(t, c, nodes(text))
		}
	}
}

// P16.1: nodes that the root does not lead to are passed over, whatever their kids are.
func TestPassedOver(t *testing.T) {
	foldsTo(t, api.Context{}, nodes("a; b 5; c"), "c", "0")
	foldsTo(t, api.Context{}, nodes("a 0; c"), "c", "0")
	foldsTo(t, api.Context{}, nodes("x -1; a; x 0 0 9; b 1; x 4; x 4; c 3 3"), "a b c", "0 1 Z 3 2")
	foldsTo(t, api.Context{}, nodes("x 9223372036854775807; x -9223372036854775808; a"), "a", "0")
	// Their places do not count, and neither do their labels.
	foldsTo(t, api.Context{}, nodes("a; b 0; x 1 1; y 1; z 2 3; c 1"), "a b c", "0 1 2")
	// One that leans on a node at fault is passed over as well.
	foldsTo(t, api.Context{}, nodes("a; x 7; y 1; b 0 0"), "a b", "0 0 1")
}

// P16.1, P16.3: a part that stands twice only because the part around it stands twice has one place.
func TestOnePlace(t *testing.T) {
	foldsTo(t, api.Context{}, nodes("a; f 0; g 1; h 2 2"), "a f g h", "0 1 2 Z 4 3")
	foldsTo(t, api.Context{}, nodes("a; f 0; g 1; a; f 3; g 4; h 2 5"), "a f g h", "0 1 2 Z 4 3")
	foldsTo(t, api.Context{}, nodes("a; f 0; g 1 0; h 2; k 3 2 3"), "a f g h k", "0 1 0 2 Z 3 Z 5 6 4")
	// With a place more it is saved as well.
	foldsTo(t, api.Context{}, nodes("a; f 0; g 1; h 2 2 1"), "a f g h", "0 1 Z 2 Z 5 4 3")
	foldsTo(t, api.Context{}, nodes("a; f 0; g 1; h 1 2 2"), "a f g h", "0 1 Z 4 2 Z 5 3")
}

// P16.1, P16.3: a part that stands twice as kid of one node has two places.
func TestTwiceInOneNode(t *testing.T) {
	foldsTo(t, api.Context{}, nodes("a; f 0; g 1 1"), "a f g", "0 1 Z 3 2")
	foldsTo(t, api.Context{}, nodes("a; f 0; f 0; g 1 2"), "a f g", "0 1 Z 3 2")
	foldsTo(t, api.Context{}, nodes("a; f 0; g 1 0 1 0 1"), "a f g", "0 1 Z 0 3 0 3 2")
	foldsTo(t, mandatory("a", "g"), nodes("a; f 0; g 1 1"), "f", "0 2 Z 3 1")
}

// P16.1: labels without hypotheses are parts of one label: in however many places, they are never saved; the root too.
func TestOneLabel(t *testing.T) {
	foldsTo(t, api.Context{}, nodes("a"), "a", "0")
	foldsTo(t, mandatory("b", "a"), nodes("a"), "", "1")
	foldsTo(t, api.Context{}, nodes("a; a; a; f 0 1 2 0 1 2"), "a f", "0 0 0 0 0 0 1")
	foldsTo(t, mandatory("b"), nodes("b; a; f 0 1 0 1"), "a f", "0 1 0 1 2")
}

// Equal parts: the same label, as many parts, and equal ones in the same order.
func TestEqualParts(t *testing.T) {
	foldsTo(t, api.Context{}, nodes("a; b; f 0; f 1; g 2 3"), "a f b g", "0 1 2 1 3")
	foldsTo(t, api.Context{}, nodes("a; b; f 0 1; f 1 0; g 2 3"), "a b f g", "0 1 2 1 0 2 3")
	foldsTo(t, api.Context{}, nodes("a; f 0; k 0; g 1 2"), "a f k g", "0 1 0 2 3")
	foldsTo(t, api.Context{}, nodes("a; f 0; f 0 0; f 0 0 0; g 1 2 3"), "a f g", "0 1 0 0 1 0 0 0 1 2")
	foldsTo(t, api.Context{}, nodes("a; f 0; f 1; g 1 2"), "a f g", "0 1 Z 3 1 2")
	foldsTo(t, api.Context{}, nodes("a; a 0; a 0 0; a 1; a 2 3 1"), "a", "0 0 0 0 0 Z 0 1 0")
	// Labels are any texts.
	l := []api.Node{{}, {Label: " ", Kids: []int{0}}, {Label: "0 1", Kids: []int{0, 1, 1}}, {Label: "0", Kids: []int{2, 1, 0}}}
	listed, codes, code := Nodes(mandatory("0"), l)
	if !slices.Equal(listed, []string{"", " ", "0 1"}) || !slices.Equal(codes, numbersIn("1 1 2 Z 4 3 4 1 0")) || code != api.OK {
		t.Errorf("P16.1: odd labels: %q, %v, %d", listed, codes, code)
	}
}

// P16.1: numbers of mandatory hypotheses: the first of a label counts, the others have numbers all the same; also at nodes with kids, which denote nothing.
func TestMandatory(t *testing.T) {
	foldsTo(t, mandatory("a", "b", "a"), nodes("b; a; f 0 1 0"), "f", "1 0 1 3")
	foldsTo(t, mandatory("x", "a", "a"), nodes("a; a 0; a 1 1"), "", "1 1 Z 3 1")
	foldsTo(t, mandatory("f", "f"), nodes("a; f 0; g 1 1"), "a g", "2 0 Z 4 3")
	foldsTo(t, mandatory("x", "y", "z"), nodes("a; f 0; g 1 1"), "a f g", "3 4 Z 6 5")
	foldsTo(t, mandatory("g", "f", "a"), nodes("a; f 0; g 1 1"), "", "2 1 Z 3 0")
	// What is active and not mandatory stands in the brackets.
	c := contextOf(t, loaded(t, chapter), "t")
	foldsTo(t, c, nodes("wq; wp; wi 0 1"), "wq wi", "1 0 2")
	// Nothing else of a context is asked.
	c = api.Context{Hyps: []api.Hyp{{Label: "a"}}, Mandatory: []api.Hyp{{Label: "f", Floating: true, Var: -7}}, Before: -1, Goal: []int{-1}, Pairs: []api.Pair{{A: 3, B: 3}}}
	foldsTo(t, c, nodes("a; f 0; g 1 1"), "a g", "1 0 Z 3 2")
}

// P16.1: the labels in the brackets stand in the order in which they first stand in the unfolded proof, not in that of the nodes.
func TestBracketOrder(t *testing.T) {
	foldsTo(t, api.Context{}, nodes("a; b; f 1; g 2 0; f 1; h 3 4"), "b f a g h", "0 1 Z 2 3 5 4")
	foldsTo(t, api.Context{}, nodes("z; y; x; r 2 1 0 1 2"), "x y z r", "0 1 2 1 0 3")
	foldsTo(t, api.Context{}, nodes("k; f 0; m; f 2; r 3 1"), "m f k r", "0 1 2 1 3")
}

// R12: numbers below 0, of axioms, behind the last assertion, and of a base without a theorem, or with nothing.
func TestNoTheorem(t *testing.T) {
	for _, text := range []string{chapter, bareTheorem("g"), "", "$c w $. a $a w $. b $a w $."} {
		b := loaded(t, text)
		for _, n := range []int{math.MinInt, math.MinInt + 1, -1 << 31, -2, -1, b.Count(), b.Count() + 1, 1 << 31, math.MaxInt} {
			refuses(t, b, n, api.ErrNone)
		}
		for n := range b.Count() {
			if a, _ := b.At(n); !a.Theorem {
				refuses(t, b, n, api.ErrNone)
			}
		}
	}
}

// R12: theorems that are not proved, whatever their verdict.
func TestUnproved(t *testing.T) {
	for _, words := range []string{
		"", "?", "g ?", "g g", "j", "no", "t", "late", "e1",
		"(", "( g", "( )", "( g ) C C", "( g g ) C", "( h ) A", "( no ) C", "( late ) C", "( e1 ) C", "( g ) ?", "( g ) CU", "( g ) Z", "( g ) CZZ", "( g ) D", "( j ) C", "( g ) c", "( g ) CZD",
		"g" + strings.Repeat(" j", 4000), "( g j ) C" + strings.Repeat("ZD", 2000), strings.Repeat("g ", 41) + strings.Repeat("d ", 40), "( g d ) CZ" + strings.Repeat("E", 40) + strings.Repeat("D", 40),
	} {
		b := loaded(t, bareTheorem(words)+" late $a w $.")
		n, _ := b.Find("t")
		if v, _ := verify.Theorem(b, n); v.Code == api.OK {
			t.Fatalf("%.60q is proved", words)
		}
		refuses(t, b, n, api.ErrUnproved)
	}
	// Another goal is left than the theorem's.
	refuses(t, loaded(t, "$c w v $. g $a w $. t $p v $= g $."), 1, api.ErrUnproved)
	refuses(t, loaded(t, "$c w v $. g $a w $. t $p v $= ( g ) A $."), 1, api.ErrUnproved)
}

// P16.1: Labels answers ErrTree for labels that denote no derivation in the context.
func TestLabelsNoTree(t *testing.T) {
	b := loaded(t, chapter+" late $a wff p $.")
	c := contextOf(t, b, "t")
	for _, text := range []string{"", "wp wp", "wi", "wp wi", "zz", "t", "late", "wp late", "?", "wp ?", "wp wp wi wp", "wp wp a1 wp wi", "( wi ) AAB", "( wi )", "(", "wp ( wi ) B"} {
		if listed, codes, code := Labels(b, c, strings.Fields(text)); len(listed) != 0 || len(codes) != 0 || code != api.ErrTree {
			t.Errorf("P16.1: Labels(%q): %q, %v, %d", text, listed, codes, code)
		}
	}
	for _, labels := range [][]string{{""}, {"wp", ""}, {"wp wp", "wi"}, make([]string, 4000)} {
		if listed, codes, code := Labels(b, c, labels); len(listed) != 0 || len(codes) != 0 || code != api.ErrTree {
			t.Errorf("P16.1: Labels(%.60q): %q, %v, %d", labels, listed, codes, code)
		}
	}
}

// P16.1: Labels goes by the context that is handed in: its hypotheses ahead of the base's assertions, its Mandatory whatever they are, its goal not at all; a bracket is a label as others are.
func TestLabelsContext(t *testing.T) {
	b := loaded(t, chapter)
	c := contextOf(t, b, "t")
	wff, _ := b.Number("wff")
	c.Hyps = append([]api.Hyp{{Label: "(", Expr: []int{wff}}, {Label: ")", Expr: []int{wff}}, {Label: "late", Expr: []int{wff}}}, c.Hyps...)
	c.Mandatory = append(mandatory("late", "no", "late").Mandatory, c.Mandatory...)
	c.Goal = nil
	for _, try := range []struct{ labels, listed, codes string }{
		{"late wp wi", "wi", "0 3 4"},
		{"( ) wi ( ) wi wi", "( ) wi", "4 5 6 Z 7 6"},
		{"(", "(", "4"},
		{"wq", "wq", "4"},
		{"wp wq wi wp wq wi wp wq wi wi wi", "wq wi", "3 4 5 Z 6 6 5 5"},
	} {
		listed, codes, code := Labels(b, c, strings.Fields(try.labels))
		if !slices.Equal(listed, strings.Fields(try.listed)) || !slices.Equal(codes, numbersIn(try.codes)) || code != api.OK {
			t.Errorf("P16.1: Labels(%q): %q, %v, %d, want %q, %s", try.labels, listed, codes, code, try.listed, try.codes)
		}
	}
	// Whether a machine could hold it is not asked: a hundred entries wait for as many steps.
	b = loaded(t, bareTheorem("?"))
	deep := slices.Concat(slices.Repeat([]string{"h"}, 100), slices.Repeat([]string{"d"}, 99))
	listed, codes, code := Labels(b, contextOf(t, b, "t"), deep)
	if want := slices.Concat(slices.Repeat([]int{0}, 100), slices.Repeat([]int{2}, 99)); !slices.Equal(listed, []string{"d"}) || !slices.Equal(codes, want) || code != api.OK {
		t.Errorf("P16.1: Labels of a deep proof: %q, %v, %d", listed, codes, code)
	}
}

// P16.1, P16.4: Packed and Text of theorems: what is saved in vain goes, brackets lose what is not used, and are put in order.
func TestTheorems(t *testing.T) {
	b := loaded(t, chapter+` u $p wff ( ( p -> p ) -> ( p -> p ) ) $= wp wp wi wp wp wi wi $. v $p wff p $= wq $.
w $p wff ( ( p -> p ) -> ( p -> p ) ) $= ( a1 wi ) AZDCZECZ $. x $p wff ( p -> p ) $= ( wq u wi t ) AAD $. y $p wff p $= ( wi ) A $. z $p wff p $= wp $. twice $p wff ( p -> p ) $= ( wi ) AZZ $.`)
	for n, want := range []string{2: "( a1 )\nAAB", 3: "( wi )\nAABZCB", 5: "( wi )\nAABZCB", 6: "( wi )\nAAB", 7: "( )\nA", 8: "( )\nA"} {
		if want == "" {
			continue
		}
		if text, code := Text(b, n); text != want || code != api.OK {
			t.Errorf("P16.1: Text(%d): %q, %d, want %q", n, text, code, want)
		}
		listed, codes, code := Packed(b, n)
		if text, _ := proof.Packed(listed, codes); text != want || code != api.OK {
			t.Errorf("P16.1: Packed(%d): %q, %v, %d, want %q", n, listed, codes, code, want)
		}
	}
	for n, want := range []api.Errno{api.ErrNone, api.ErrNone, api.OK, api.OK, api.ErrUnproved, api.OK, api.OK, api.OK, api.OK, api.ErrUnproved, api.ErrNone} {
		if _, _, code := Packed(b, n); code != want {
			t.Errorf("R12: Packed(%d): %d, want %d", n, code, want)
		}
		if want != api.OK {
			refuses(t, b, n, want)
		}
	}
}

// A theorem that cites one which is not proved may be proved: that is folded; what is cited is a label, whatever its own proof is.
func TestCites(t *testing.T) {
	b := loaded(t, "$c w $. open $p w $= ? $. by $p w $= open $. again $p w $= ( open by ) B $.")
	refuses(t, b, 0, api.ErrUnproved)
	for n, want := range []string{1: "( open )\nA", 2: "( by )\nA"} {
		if text, code := Text(b, n); n > 0 && (text != want || code != api.OK) {
			t.Errorf("P16.1: Text(%d): %q, %d, want %q", n, text, code, want)
		}
	}
}
