package base

import (
	"reflect"
	"slices"
	"strings"
	"testing"

	"lemma/api"
	"lemma/stmt"
)

// textM is the chapter's text M.
const textM = `$c ( ) -> wff |- $.
$v p q r $.
wp $f wff p $.
wq $f wff q $.
wr $f wff r $.
wi $a wff ( p -> q ) $.
a1 $a |- ( p -> ( q -> p ) ) $.
a2 $a |- ( ( p -> ( q -> r ) ) -> ( ( p -> q ) -> ( p -> r ) ) ) $.
${
  mn $e |- p $.
  mj $e |- ( p -> q ) $.
  mp $a |- q $.
$}
id $p |- ( p -> p ) $=
  wp wp wp wi wi wp wp wi wp wp a1 wp wp wp wi wp wi wi wp wp wp wi wi
  wp wp wi wi wp wp wp wi a1 wp wp wp wi wp a2 mp mp $.
`

func loaded(t *testing.T, text string) *Base {
	t.Helper()
	b, f := Load(text)
	if f != nil || b == nil {
		t.Fatalf("Load of %q: %v, %+v", clip(text), b != nil, f)
	}
	return b
}

// clip keeps what is told of a text short.
func clip(text string) string { return text[max(0, len(text)-100):] }

func at(t *testing.T, b *Base, n int) api.Assertion {
	t.Helper()
	a, code := b.At(n)
	if code != api.OK {
		t.Fatalf("At(%d): %d", n, code)
	}
	return a
}

// labels tells hypotheses by their labels.
func labels(hyps []api.Hyp) string {
	var l []string
	for _, h := range hyps {
		l = append(l, h.Label)
	}
	return strings.Join(l, " ")
}

func pairs(numbers ...int) []api.Pair {
	var l []api.Pair
	for i := 0; i < len(numbers); i += 2 {
		l = append(l, api.Pair{A: numbers[i], B: numbers[i+1]})
	}
	return l
}

// holds holds an assertion's frame and scope against labels, and its pairs against pairs.
func holds(t *testing.T, a api.Assertion, needed string, apart []api.Pair, active string, all []api.Pair) {
	t.Helper()
	if labels(a.Frame.Hyps) != needed || !slices.Equal(a.Frame.Pairs, apart) {
		t.Errorf("P8.3: %s needs %q, %v, not %q, %v", a.Label, labels(a.Frame.Hyps), a.Frame.Pairs, needed, apart)
	}
	if labels(a.Scope.Hyps) != active || !slices.Equal(a.Scope.Pairs, all) {
		t.Errorf("P8.3: %s stands in %q, %v, not %q, %v", a.Label, labels(a.Scope.Hyps), a.Scope.Pairs, active, all)
	}
}

// P8.4: the chapter's example 1: numbers in the order of the text.
func TestNumbers(t *testing.T) {
	b := loaded(t, textM)
	names := strings.Fields("( ) -> wff |- p q r")
	if b.Symbols() != len(names) {
		t.Errorf("P8.4: %d symbols", b.Symbols())
	}
	for n, name := range names {
		if m, found := b.Number(name); b.Name(n) != name || m != n || !found || b.IsVar(n) != (n >= 5) {
			t.Errorf("P8.4: symbol %d is %q, %v; %q is %d, %v", n, b.Name(n), b.IsVar(n), name, m, found)
		}
	}
	asserted := strings.Fields("wi a1 a2 mp id")
	if b.Count() != len(asserted) {
		t.Errorf("P8.4: %d assertions", b.Count())
	}
	for n, label := range asserted {
		a := at(t, b, n)
		if m, found := b.Find(label); a.Label != label || a.Number != n || m != n || !found || a.Theorem != (label == "id") {
			t.Errorf("P8.4: assertion %d is %q, number %d; %q is %d, %v", n, a.Label, a.Number, label, m, found)
		}
	}
}

// P8.3: the chapter's example 1: frames and scopes.
func TestFrames(t *testing.T) {
	b := loaded(t, textM)
	holds(t, at(t, b, 0), "wp wq", nil, "wp wq wr", nil)
	holds(t, at(t, b, 2), "wp wq wr", nil, "wp wq wr", nil)
	holds(t, at(t, b, 3), "wp wq mn mj", nil, "wp wq wr mn mj", nil)
	holds(t, at(t, b, 4), "wp", nil, "wp wq wr", nil)
	if goal := at(t, b, 3).Frame.Goal; !slices.Equal(goal, api.Expr{4, 6}) {
		t.Errorf("P8.3: the goal of mp is %v", goal)
	}
	want := []api.Hyp{
		{Label: "wp", Floating: true, Var: 5, Expr: api.Expr{3, 5}},
		{Label: "wq", Floating: true, Var: 6, Expr: api.Expr{3, 6}},
		{Label: "mn", Var: -1, Expr: api.Expr{4, 5}},
		{Label: "mj", Var: -1, Expr: api.Expr{4, 0, 5, 2, 6, 1}},
	}
	if a := at(t, b, 3); !reflect.DeepEqual(a.Frame.Hyps, want) {
		t.Errorf("P8.3: the frame of mp is %v", a.Frame.Hyps)
	}
}

// P8.4: an assertion's tokens are those of its statement, places and all; a proof is a theorem's alone.
func TestTokens(t *testing.T) {
	text := textM + "none $p wff p $= $.\ntwo $p wff q $=\n wp $( x $)\twq\n$."
	b := loaded(t, text)
	stmts, _ := stmt.Read(text)
	n := 0
	for _, s := range stmts {
		if s.Kind != api.StAxiom && s.Kind != api.StTheorem {
			continue
		}
		a := at(t, b, n)
		if a.At != s.Label || a.End != s.End || !slices.Equal(a.Proof, s.Proof) || a.Theorem != (s.Kind == api.StTheorem) {
			t.Errorf("P8.4: %s: at %v, end %v, %d words of a proof", a.Label, a.At, a.End, len(a.Proof))
		}
		n++
	}
	if n != b.Count() || len(at(t, b, 4).Proof) != 40 || len(at(t, b, 3).Proof) != 0 || len(at(t, b, 5).Proof) != 0 {
		t.Errorf("P8.4: %d of %d assertions", n, b.Count())
	}
	two := at(t, b, 6)
	want := []api.Token{{Text: "wp", At: two.Proof[0].At}, {Text: "wq", At: api.Pos{Off: len(text) - 5, Line: 19, Col: 13}}}
	if !slices.Equal(two.Proof, want) || two.End.At.Line != 20 {
		t.Errorf("P8.4: the proof is %v, its end %v", two.Proof, two.End)
	}
}

// The text and its statements are told as they were read, also of a text with nothing in it.
func TestTextAndStmts(t *testing.T) {
	for _, text := range []string{"", " \n", "$( only a comment $)", "$c x $.", "${ $}", textM, textM + "$d p q $. $( x $)"} {
		b := loaded(t, text)
		want, _ := stmt.Read(text)
		if b.Text() != text || !reflect.DeepEqual(b.Stmts(), want) {
			t.Errorf("of %q: the text %q, %d statements", clip(text), clip(b.Text()), len(b.Stmts()))
		}
	}
	b := loaded(t, "")
	if b.Count() != 0 || b.Symbols() != 0 || b.Taken("") || b.Name(0) != "" || b.Print(api.Expr{0}) != "?" {
		t.Error("the empty text has something in it")
	}
	if _, code := b.At(0); code != api.ErrNone {
		t.Errorf("At(0) of the empty text: %d", code)
	}
}

// R12: numbers that are no assertion's.
func TestNoAssertion(t *testing.T) {
	least := -1 << 63
	for _, b := range []*Base{loaded(t, ""), loaded(t, textM)} {
		for _, n := range []int{least, -2, -1, b.Count(), b.Count() + 1, 1 << 40, least ^ -1} {
			a, code := b.At(n)
			if code != api.ErrNone || !reflect.DeepEqual(a, api.Assertion{}) {
				t.Errorf("At(%d): %v, %d", n, a, code)
			}
			c, code := b.Context(n)
			if code != api.ErrNone || !reflect.DeepEqual(c, api.Context{}) {
				t.Errorf("Context(%d): %v, %d", n, c, code)
			}
			c, code = b.Behind(n, api.Expr{3, 5})
			if code != api.ErrNone || !reflect.DeepEqual(c, api.Context{}) {
				t.Errorf("Behind(%d): %v, %d", n, c, code)
			}
		}
	}
}

// P8.4: the chapter's example 7: labels of hypotheses and assertions are apart, and neither are symbols.
func TestLabels(t *testing.T) {
	b := loaded(t, textM+"${ $v z $. p $f wff z $. $}")
	for _, label := range strings.Fields("wp wq wr mn mj p") {
		h, found := b.Hyp(label)
		n, asserted := b.Find(label)
		if !found || h.Label != label || n != 0 || asserted || !b.Taken(label) {
			t.Errorf("P8.4: %s: hypothesis %v %v, assertion %d %v", label, h, found, n, asserted)
		}
	}
	for _, label := range strings.Fields("wi a1 a2 mp id") {
		h, found := b.Hyp(label)
		if _, asserted := b.Find(label); found || !asserted || !b.Taken(label) || !reflect.DeepEqual(h, api.Hyp{}) {
			t.Errorf("P8.4: %s: hypothesis %v %v, assertion %v", label, h, found, asserted)
		}
	}
	for _, label := range []string{"", "q", "wff", "(", "WP", "wp ", "x", "$f", "\x00", strings.Repeat("w", 1000)} {
		h, found := b.Hyp(label)
		n, asserted := b.Find(label)
		if found || asserted || n != 0 || b.Taken(label) || !reflect.DeepEqual(h, api.Hyp{}) {
			t.Errorf("P8.4: %q: hypothesis %v %v, assertion %d %v", label, h, found, n, asserted)
		}
	}
	if h, _ := b.Hyp("mn"); !reflect.DeepEqual(h, api.Hyp{Label: "mn", Var: -1, Expr: api.Expr{4, 5}}) {
		t.Errorf("mn is %v", h)
	}
	if h, _ := b.Hyp("p"); !reflect.DeepEqual(h, api.Hyp{Label: "p", Floating: true, Var: 8, Expr: api.Expr{3, 8}}) {
		t.Errorf("p is %v", h)
	}
}

// Symbols, by number and by name, active at the text's end or not.
func TestSymbols(t *testing.T) {
	b := loaded(t, "$c t $. ${ $v x $. ${ $v y $. $} $} $v z $. $c u $.")
	for n, name := range []string{"t", "x", "y", "z", "u"} {
		if m, found := b.Number(name); m != n || !found || b.Name(n) != name || b.IsVar(n) != (n >= 1 && n <= 3) {
			t.Errorf("P8.4: %q is %d, %v; %d is %q, %v", name, m, found, n, b.Name(n), b.IsVar(n))
		}
	}
	for _, name := range []string{"", "w", "tx", "$c", "t ", "?"} {
		if n, found := b.Number(name); n != 0 || found {
			t.Errorf("Number(%q): %d, %v", name, n, found)
		}
	}
	least := -1 << 63
	for _, n := range []int{least, -1, 5, 99, least ^ -1} {
		if b.Name(n) != "" || b.IsVar(n) {
			t.Errorf("symbol %d: %q, %v", n, b.Name(n), b.IsVar(n))
		}
	}
}

// Read: names active or not, however many; ErrSymbol and nothing else at a word that is none.
func TestRead(t *testing.T) {
	b := loaded(t, textM+"${ $v old $. $}")
	for _, x := range []struct {
		words string
		want  api.Expr
		code  api.Errno
	}{
		{"", nil, api.OK},
		{"p", api.Expr{5}, api.OK},
		{"( p -> old ) p", api.Expr{0, 5, 2, 8, 1, 5}, api.OK},
		{"p zz", nil, api.ErrSymbol},
		{"zz p", nil, api.ErrSymbol},
		{"wp", nil, api.ErrSymbol},
		{"?", nil, api.ErrSymbol},
	} {
		e, code := b.Read(strings.Fields(x.words))
		if !slices.Equal(e, x.want) || code != x.code {
			t.Errorf("Read of %q: %v, %d", x.words, e, code)
		}
	}
	for _, word := range []string{"", " p", "p q", "\x00"} {
		if e, code := b.Read([]string{"p", word, "q"}); len(e) != 0 || code != api.ErrSymbol {
			t.Errorf("Read with %q: %v, %d", word, e, code)
		}
	}
	many := slices.Repeat([]string{"p", "->"}, 2*api.MaxExpr)
	e, code := b.Read(many)
	if len(e) != len(many) || code != api.OK || e[0] != 5 || e[len(e)-1] != 2 {
		t.Errorf("Read of %d words: %d symbols, %d", len(many), len(e), code)
	}
	if s := b.Print(e); s != strings.Join(many, " ") {
		t.Errorf("Print of %d symbols: %d bytes", len(e), len(s))
	}
}

// Print: names parted by one blank, "?" for a number that is none.
func TestPrint(t *testing.T) {
	b := loaded(t, textM)
	for _, x := range []struct {
		e    api.Expr
		want string
	}{
		{nil, ""},
		{api.Expr{}, ""},
		{api.Expr{5, 99}, "p ?"},
		{api.Expr{4, 0, 5, 2, 6, 1}, "|- ( p -> q )"},
		{api.Expr{-1, 8, 7, 1 << 40}, "? ? r ?"},
	} {
		if s := b.Print(x.e); s != x.want {
			t.Errorf("Print(%v): %q", x.e, s)
		}
	}
}

// Context: where an assertion's proof stands.
func TestContext(t *testing.T) {
	b := loaded(t, textM+"$d p q $. ${ $d r q $. e $e wff q $. z $p wff p $= wp $. $}")
	for n := range b.Count() {
		a := at(t, b, n)
		want := api.Context{Hyps: a.Scope.Hyps, Pairs: a.Scope.Pairs, Mandatory: a.Frame.Hyps, Before: n, Goal: a.Frame.Goal}
		if c, code := b.Context(n); code != api.OK || !reflect.DeepEqual(c, want) {
			t.Errorf("Context(%d): %v, %d", n, c, code)
		}
	}
	c, _ := b.Context(5)
	if labels(c.Hyps) != "wp wq wr e" || labels(c.Mandatory) != "wp wq e" || !slices.Equal(c.Pairs, pairs(5, 6, 6, 7)) || !slices.Equal(c.Goal, api.Expr{3, 5}) {
		t.Errorf("Context(5): %v", c)
	}
}

// Behind: any goal, at the end of the base; of mandatory hypotheses those that it needs there.
func TestBehind(t *testing.T) {
	b := loaded(t, "$c t u $. $v x y z w $. fx $f t x $. fy $f t y $. ${ ez $e u x $. fz $f t z $. $d x z $. a $a u y $. fw $f t w $. ew $e t w $. c $p u $= $. $} d $a t $.")
	for _, x := range []struct {
		n         int
		goal      api.Expr
		mandatory string
	}{
		{0, nil, "fx ez"},
		{0, api.Expr{0, 3}, "fx fy ez"},
		{0, api.Expr{4, 3, 4}, "fx fy ez fz"},
		{0, api.Expr{2}, "fx ez"},
		{0, api.Expr{5, 5}, "fx ez"}, // its hypothesis stands behind a
		{0, api.Expr{-1, 99, 0, 1}, "fx ez"},
		{1, api.Expr{0}, "fx ez fw ew"},
		{1, api.Expr{4}, "fx ez fz fw ew"},
		{2, nil, ""},
		{2, api.Expr{3, 2, 3}, "fx fy"},
		{2, api.Expr{4, 5}, ""},
		{2, slices.Repeat(api.Expr{0, 3, 77}, 1000), "fy"},
	} {
		c, code := b.Behind(x.n, x.goal)
		a := at(t, b, x.n)
		if code != api.OK || c.Before != 3 || !slices.Equal(c.Goal, x.goal) || !reflect.DeepEqual(c.Hyps, a.Scope.Hyps) || !slices.Equal(c.Pairs, a.Scope.Pairs) {
			t.Errorf("Behind(%d, %v): %v, %d", x.n, clipped(x.goal), labels(c.Hyps), code)
		}
		var want []api.Hyp
		for _, label := range strings.Fields(x.mandatory) {
			h, _ := b.Hyp(label)
			want = append(want, h)
		}
		if labels(c.Mandatory) != x.mandatory || len(want) > 0 && !reflect.DeepEqual(c.Mandatory, want) {
			t.Errorf("Behind(%d, %v): mandatory %s, not %s", x.n, clipped(x.goal), labels(c.Mandatory), x.mandatory)
		}
	}
	m := loaded(t, textM)
	c, _ := m.Behind(4, api.Expr{3, 6})
	if labels(c.Hyps) != "wp wq wr" || labels(c.Mandatory) != "wq" || c.Before != 5 {
		t.Errorf("the chapter's example 1: %v", c)
	}
}

func clipped(e api.Expr) api.Expr { return e[:min(len(e), 10)] }
