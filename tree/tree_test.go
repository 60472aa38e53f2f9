package tree

import (
	"slices"
	"strconv"
	"strings"
	"testing"

	"lemma/api"
	"lemma/base"
	"lemma/pack"
	"lemma/proof"
	"lemma/stack"
)

// chapter is the base of the chapter's examples; wy is active where t stands and not mandatory there.
const chapter = `$c w a $. $v x y $. w $f w x $. wy $f w y $.
ax $a w x $.
${ e1 $e w x $. e2 $e w x $. mp $a w x $. $}
t $p w x $= w $.`

// many is a text with an assertion for each error of a step.
const many = `$c wff |- -> ( ) $. $v x y z $.
wx $f wff x $. wy $f wff y $. wz $f wff z $.
wi $a wff ( x -> y ) $.
${ min $e |- x $. maj $e |- ( x -> y ) $. mp $a |- y $. $}
${ $d x y $. dp $a wff x y $. $}
none $a wff ( ) $.
dd $a wff x x $.
${ hx $e |- x $. in $p |- ( x -> y ) $= ? $. $}
t $p wff ( x -> y ) $= ? $.
late $a wff x $.`

func loaded(t *testing.T, text string) *base.Base {
	t.Helper()
	b, fault := base.Load(text)
	if fault != nil {
		t.Fatalf("the text is refused: %v", *fault)
	}
	return b
}

// contextOf gives where an assertion's proof stands.
func contextOf(t *testing.T, b *base.Base, label string) api.Context {
	t.Helper()
	n, found := b.Find(label)
	c, _ := b.Context(n)
	if !found {
		t.Fatalf("no assertion: %q", label)
	}
	return c
}

// tokens gives words, each at a place of its own.
func tokens(words ...string) []api.Token {
	var all []api.Token
	for i, word := range words {
		all = append(all, api.Token{Text: word, At: api.Pos{Off: 3 * i, Line: i + 1, Col: 1}})
	}
	return all
}

// coded gives codes of these numbers.
func coded(numbers ...int) []api.Code {
	var all []api.Code
	for _, n := range numbers {
		all = append(all, api.Code{N: n})
	}
	return all
}

// parsed gives the proof that words are.
func parsed(words string) api.Proof {
	return proof.Parse(tokens(strings.Fields(words)...), api.Token{Text: "$."})
}

// nodes reads a list: "w; ax 0; mp 0 1 1".
func nodes(text string) []api.Node {
	var l []api.Node
	for part := range strings.SplitSeq(text, ";") {
		words := strings.Fields(part)
		if len(words) == 0 {
			continue
		}
		node := api.Node{Label: words[0]}
		for _, word := range words[1:] {
			kid, err := strconv.Atoi(word)
			if err != nil {
				panic(err)
			}
			node.Kids = append(node.Kids, kid)
		}
		l = append(l, node)
	}
	return l
}

// text writes a list as nodes reads it.
func text(l []api.Node) string {
	var parts []string
	for _, node := range l {
		part := node.Label
		for _, kid := range node.Kids {
			part += " " + strconv.Itoa(kid)
		}
		parts = append(parts, part)
	}
	return strings.Join(parts, "; ")
}

// shown tells a proof in short.
func shown(p api.Proof) string {
	words := []string{"form", strconv.Itoa(p.Form)}
	for _, label := range p.Labels {
		words = append(words, label.Text)
	}
	words = append(words, "codes")
	for _, code := range p.Codes {
		words = append(words, strconv.Itoa(code.N))
	}
	return strings.Join(words, " ")
}

// ofIs holds Of against a list; the empty one: ErrTree.
func ofIs(t *testing.T, b *base.Base, c api.Context, p api.Proof, want string) {
	t.Helper()
	l, code := Of(b, c, p)
	wantCode := api.OK
	if want == "" {
		wantCode = api.ErrTree
	}
	if text(l) != want || code != wantCode {
		t.Errorf("P13.1: Of(%.200s): %.200q, %d, want %.200q", shown(p), text(l), code, want)
	}
}

// judged is the Run of a proof's form.
func judged(b *base.Base, c api.Context, p api.Proof) api.Errno {
	if p.Form == api.FormPacked {
		return pack.Run(b, c, p).Code
	}
	return stack.Run(b, c, p).Code
}

// concluded holds Conclude against what nodes prove, in words, parted by commas; "-": ErrTree.
func concluded(t *testing.T, b *base.Base, c api.Context, l []api.Node, want string) {
	t.Helper()
	proved, code := Conclude(b, c, l)
	var words []string
	for _, e := range proved {
		words = append(words, b.Print(e))
	}
	got := strings.Join(words, ", ")
	if code == api.ErrTree && len(proved) == 0 {
		got = "-"
	} else if code != api.OK {
		t.Errorf("P13.2: Conclude(%.200q): %v beside %d", text(l), proved, code)
	}
	if got != want {
		t.Errorf("P13.2: Conclude(%.200q): %.200q, want %.200q", text(l), got, want)
	}
}

// P13.1 to P13.7: the chapter's examples.
func TestExamples(t *testing.T) {
	b := loaded(t, chapter)
	c := contextOf(t, b, "t")
	third, fourth := nodes("w; w; ax 1; w; ax 3; mp 0 2 4"), nodes("w; w; ax 1; mp 0 2 2")
	ofIs(t, b, c, parsed("w"), "w")
	ofIs(t, b, c, parsed("w ax"), "w; ax 0")
	ofIs(t, b, c, parsed("w w ax w ax mp"), text(third))
	ofIs(t, b, c, parsed("( ax mp ) A A B Z D C"), text(fourth))
	for _, words := range []string{"w w", "", "ax", "x"} {
		ofIs(t, b, c, parsed(words), "")
	}
	concluded(t, b, c, nodes("w; ax 0"), "w x, w x")
	concluded(t, b, c, nodes("ax"), "-")
	concluded(t, b, c, nodes(""), "-")
	concluded(t, b, c, nodes("w 0"), "-")
	if Size(third) != 6 || Depth(third) != 3 {
		t.Errorf("P13.3, P13.4: the third has the size %d and the depth %d", Size(third), Depth(third))
	}
	if labels, small := Labels(fourth); !small || strings.Join(labels, " ") != "w w ax w ax mp" {
		t.Errorf("P13.5: the labels of the fourth: %q, %v", labels, small)
	}
	if shared := text(Share(third)); shared != "w; ax 0; mp 0 1 1" {
		t.Errorf("P13.6: the third shared: %q", shared)
	}
	if !Same(third, fourth) || !Same(fourth, third) {
		t.Errorf("P13.7: the third and the fourth are not the same")
	}
}

// The chapter's hard places.
func TestHardPlaces(t *testing.T) {
	b := loaded(t, chapter)
	c := contextOf(t, b, "t")
	// A goal that is not proved, but one entry.
	ofIs(t, b, c, parsed("wy"), "wy")
	ofIs(t, b, c, parsed("wy ax"), "wy; ax 0")
	concluded(t, b, c, nodes("wy; ax 0"), "w y, w y")
	if code := judged(b, c, parsed("wy ax")); code != api.ErrGoal {
		t.Errorf("P13.1: the run says %d", code)
	}
	// A hypothesis that is saved and called back: one node.
	ofIs(t, b, c, parsed("( mp ) AZCCB"), "w; mp 0 0 0")
	for _, l := range []string{"a 0", "a; b 5; c"} {
		if Size(nodes(l)) != 0 || Depth(nodes(l)) != 0 || len(Share(nodes(l))) != 0 || Same(nodes(l), nodes(l)) {
			t.Errorf("%q is a list", l)
		}
	}
	if Same(nodes("a; b 0"), nodes("a; b 0 0")) {
		t.Error("P13.7: two nodes of one label with different numbers of parts are equal")
	}
	if shared := text(Share(nodes("a; b 0; b 0 0; c 1 2"))); shared != "a; b 0; b 0 0; c 1 2" {
		t.Errorf("P13.6: two nodes of one label with different numbers of parts: %q", shared)
	}
}

// doubling gives a list of so many nodes, each but the first with the one ahead of it twice.
func doubling(many int) []api.Node {
	l := []api.Node{{Label: "a"}}
	for n := range many - 1 {
		l = append(l, api.Node{Label: "m", Kids: []int{n, n}})
	}
	return l
}

// P13.8: a hundred nodes that double, in every call.
func TestDoubling(t *testing.T) {
	l := doubling(100)
	if Size(l) != 2001 || Depth(l) != 100 {
		t.Errorf("P13.3, P13.4: of a tree of 2^100 labels: %d, %d", Size(l), Depth(l))
	}
	if labels, small := Labels(l); small || len(labels) > 0 {
		t.Errorf("P13.5: of a tree of 2^100 labels: %d, %v", len(labels), small)
	}
	if text(Share(l)) != text(l) {
		t.Errorf("P13.6: a tree of 2^100 labels: %q", text(Share(l)))
	}
	other := slices.Concat(nodes("a"), l[1:])
	other[99] = api.Node{Label: "m", Kids: []int{98, 97}}
	if !Same(l, doubling(100)) || !Same(l, l) || Same(l, other) || Same(other, l) || Same(l, doubling(99)) {
		t.Error("P13.7: trees of 2^100 labels")
	}
	b := loaded(t, "$c w $. a $a w $. ${ h $e w $. g $e w $. m $a w $. $} t $p w $= a $.")
	c := contextOf(t, b, "t")
	concluded(t, b, c, l, strings.Repeat("w, ", 99)+"w")
	codes := []int{1}
	for n := range 99 {
		codes = append(codes, api.CodeSave, 2+n, 0)
	}
	p := api.Proof{Form: api.FormPacked, Labels: tokens("m", "a"), Codes: coded(codes...)}
	ofIs(t, b, c, p, text(l))
	if code := judged(b, c, p); code != api.OK {
		t.Errorf("P13.9: the run of a tree of 2^100 labels: %d", code)
	}
}
