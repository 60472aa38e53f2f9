package verify

import (
	"math"
	"slices"
	"strconv"
	"strings"
	"testing"

	"lemma/api"
	"lemma/base"
)

// mixed is a text whose theorems have all sorts of verdicts, by labels ahead, behind and hidden, in scopes and outside; w1 to w4 rest on hypotheses and pairs that are active and not mandatory.
const mixed = `$c w p a $. $v x y $. wx $f w x $. wy $f w y $.
wa $a w a $.
${ $d x y $. far $a w x y $. $}
${ hx $e p x $. dup $a p x x $. in $p p x x $= wx hx dup $. in2 $p p x x $= ( dup ) ABC $. in3 $p p x x $= ( later ) A $. $}
t1 $p w x $= wx $.
t2 $p w x $= t3 $.
t3 $p w x $= wx t2 $.
t4 $p w x $= t9 $.
t5 $p w x $= hz $.
t6 $p w x $= hx $.
t7 $p w x $= ( hz ) A $.
t8 $p w x $= ( t1 t9 ) ABB $.
t9 $p w x $= ( t1 t2 ) ABB $.
${ $v z $. fz $f w z $. hz $e p z $. u1 $p p z $= hz $. u2 $p p z z $= fz hz dup $. u3 $p p z $= fz hz u1 $. u4 $p p z $= fz u5 $. u5 $p p z $= hx $. $}
${ $d x y $. v1 $p w x y $= wx wy far $. v2 $p w y x $= wy wx far $. $}
v3 $p w x y $= wx wy far $.
v4 $p w x y $= wx wy v1 $.
v5 $p w a y $= wa wy v1 $.
${ $v z $. gz $f p z $. v6 $p p z $= gz $. v7 $p p z $= fz $. v8 $p p z $= ( ) A $. $}
later $a p x $.
last $p p x $= wx later $.
${ hu $e p x $. use $a p a $. $}
${ $d x y $. hv $e w x y $. sep $a p a $. $}
w1 $p p a $= wy wy later use $.
w2 $p p a $= ( wy later use ) AABC $.
${ $d x y $. w3 $p p a $= wx wy wx wy far sep $. w4 $p p a $= ( wx wy far sep ) ABABCD $. $}
w5 $p p a $= wx wy wx wy far sep $.
none $p p x $= $.
open $p p x $= ( $.
cut $p p x $= ( later ) ABU $.
self $p p x $= wx self $.
`

// parts gives the text's first parts, cut behind each statement outside all scopes.
func parts(b *base.Base) []string {
	var all []string
	depth := 0
	for _, s := range b.Stmts() {
		switch s.Kind {
		case api.StOpen:
			depth++
		case api.StClose:
			depth--
		}
		if depth == 0 {
			all = append(all, b.Text()[:s.End.At.Off+len(s.End.Text)])
		}
	}
	return all
}

// partHolds holds what P14.6 says of a text and all its first parts, and tells how many verdicts became ErrUnknown.
func partHolds(t *testing.T, text string) int {
	t.Helper()
	whole := loaded(t, text)
	unknown := 0
	for _, cut := range parts(whole) {
		part := loaded(t, cut)
		var want []api.Verdict
		for n := range part.Count() {
			v, code := Theorem(whole, n)
			if code != api.OK {
				continue
			}
			if (v.Code == api.ErrLater || v.Code == api.ErrHidden) && !part.Taken(v.At.Text) {
				v.Code = api.ErrUnknown
				unknown++
			}
			want = append(want, v)
			if got, code := Theorem(part, n); got != v || code != api.OK {
				t.Fatalf("P14.6: in %q the theorem %d: %v, %d, want %v", cut, n, got, code, v)
			}
		}
		if l := All(part, 4); !slices.Equal(l, want) {
			t.Fatalf("P14.6: all of %q: %v, want %v", cut, l, want)
		}
	}
	return unknown
}

// P14.6: the texts of these tests, cut at every place.
func TestParts(t *testing.T) {
	if partHolds(t, mixed) < 20 {
		t.Error("P14.6: hardly a label behind a cut")
	}
	for _, text := range []string{chapter, many, small, growing, "", "$c a $. x $a a $. y $p a $= x $."} {
		partHolds(t, text)
	}
}

// The verdicts of the text mixed, by hand.
func TestMixed(t *testing.T) {
	var got []string
	for _, v := range All(loaded(t, mixed), 3) {
		got = append(got, v.Label+" "+strconv.Itoa(int(v.Code))+" "+v.At.Text)
	}
	want := "in 0 ,in2 0 ,in3 111 later,t1 0 ,t2 111 t3,t3 0 ,t4 111 t9,t5 112 hz,t6 112 hx,t7 112 hz,t8 111 t9,t9 0 ," +
		"u1 0 ,u2 0 ,u3 0 ,u4 111 u5,u5 112 hx,v1 0 ,v2 0 ,v3 116 far,v4 116 v1,v5 0 ,v6 0 ,v7 112 fz,v8 0 ,last 0 ,w1 0 ,w2 0 ,w3 0 ,w4 0 ,w5 116 far,none 118 $.,open 100 $.,cut 103 $.,self 111 self"
	if strings.Join(got, ",") != want {
		t.Errorf("P14.2: %q, want %q", strings.Join(got, ","), want)
	}
}

// writer writes a text of theorems by a rule: all strings are the constant w alone, so that a proof is one if it takes what is there.
type writer struct {
	rule
	text   strings.Builder
	takes  map[string]int // of the assertions so far: how many entries they take
	active []string       // hypotheses
	scopes []int          // how many were active when a scope began
	labels int
}

// writeText gives a text of so many assertions.
func writeText(seed, many int) string {
	w := &writer{rule: rule(seed), takes: map[string]int{"g": 0, "j": 2}}
	w.text.WriteString("$c w $. g $a w $. ${ e0 $e w $. f0 $e w $. j $a w $. $}\n")
	for n := 0; n < many; {
		switch w.below(10) {
		case 0:
			w.open()
		case 1:
			w.close()
		case 2:
			if len(w.scopes) > 0 {
				w.hyp()
			}
		case 3:
			w.assert("a"+strconv.Itoa(n), "$a w $.")
			n++
		default:
			w.assert("a"+strconv.Itoa(n), "$p w $= "+w.proof(many)+" $.")
			n++
		}
	}
	for len(w.scopes) > 0 {
		w.close()
	}
	return w.text.String()
}

func (w *writer) open() {
	if len(w.scopes) < 5 {
		w.scopes = append(w.scopes, len(w.active))
		w.text.WriteString("${\n")
	}
}

func (w *writer) close() {
	if last := len(w.scopes) - 1; last >= 0 {
		w.active, w.scopes = w.active[:w.scopes[last]], w.scopes[:last]
		w.text.WriteString("$}\n")
	}
}

func (w *writer) hyp() {
	label := "h" + strconv.Itoa(w.labels)
	w.labels++
	w.active = append(w.active, label)
	w.text.WriteString(label + " $e w $.\n")
}

func (w *writer) assert(label, rest string) {
	w.takes[label] = len(w.active)
	w.text.WriteString(label + " " + rest + "\n")
}

// proof gives the labels of a proof; one in two proofs has one label put in that may be any of the text, from its beginning to its end.
func (w *writer) proof(many int) string {
	var words []string
	depth := 0
	add := func(label string, takes int) {
		words = append(words, label)
		depth += 1 - takes
	}
	for range w.below(30) {
		label := "a" + strconv.Itoa(w.below(many))
		if takes, there := w.takes[label]; there && takes <= depth {
			add(label, takes)
		} else if len(w.active) > 0 {
			add(one(&w.rule, w.active), 0)
		}
	}
	add("g", 0)
	for depth > 1 {
		add("j", 2)
	}
	if w.below(2) == 0 {
		any := []string{"a" + strconv.Itoa(w.below(many)), "h" + strconv.Itoa(w.below(many/4)), "e0", "?"}
		words[w.below(len(words))] = one(&w.rule, any)
	}
	return strings.Join(words, " ")
}

// P14.6: texts by a rule, cut at every place.
func TestPartsByRule(t *testing.T) {
	seen := map[api.Errno]int{}
	unknown := 0
	for seed := range 40 {
		text := writeText(seed, 40)
		unknown += partHolds(t, text)
		for _, v := range All(loaded(t, text), 2) {
			seen[v.Code]++
		}
	}
	came(t, seen, 10, api.OK, api.ErrLater, api.ErrHidden, api.ErrUnder, api.ErrMissing, api.ErrLeft)
	if unknown < 100 {
		t.Errorf("P14.6: %d labels behind a cut: hardly tried", unknown)
	}
}

// without gives the context that has just what the labels of a plain proof name.
func without(b *base.Base, c api.Context, words []string) api.Context {
	c.Hyps = slices.DeleteFunc(slices.Clone(c.Hyps), func(h api.Hyp) bool { return !slices.Contains(words, h.Label) })
	c.Before = 0
	for _, label := range words {
		if n, found := b.Find(label); found && !slices.ContainsFunc(c.Hyps, func(h api.Hyp) bool { return h.Label == label }) {
			c.Before = max(c.Before, n+1)
		}
	}
	return c
}

// wider gives a context with hypotheses more, under labels that the words do not name, pairs more and a greater Before; the mandatory hypotheses may be any: a plain proof asks for none.
func (r *rule) wider(b *base.Base, c api.Context, words []string) api.Context {
	labels := []string{"", "?", "(", "more", "more", "wx", "wy", "wz", "hx", "hy", "wa", "far", "both", "t", "px", "cat"}
	for range r.below(12) {
		label := one(r, labels)
		if slices.Contains(words, label) {
			continue
		}
		h := api.Hyp{Label: label, Floating: r.below(2) == 0, Var: r.below(9) - 1, Expr: one(r, []api.Expr{nil, {0, 3}, {0, 4}, {2}, {-1, 900}, c.Goal})}
		c.Hyps = slices.Insert(slices.Clone(c.Hyps), r.below(len(c.Hyps)+1), h)
	}
	for range r.below(12) {
		p := api.Pair{A: r.below(12) - 3, B: r.below(12) - 3}
		c.Pairs = slices.Insert(slices.Clone(c.Pairs), r.below(len(c.Pairs)+1), p)
	}
	c.Before += one(r, []int{0, 1, 2, b.Count(), 1 << 40, math.MaxInt - 1000})
	c.Mandatory = one(r, [][]api.Hyp{c.Mandatory, nil, {{Label: "more"}, {}}, c.Hyps})
	return c
}

// P14.7: what is more in a context turns no accepted plain proof into another; what is named alone is enough.
func TestWider(t *testing.T) {
	b := loaded(t, growing)
	r := rule(147)
	tried, apart := 0, 0
	for range 600 {
		c := contextOf(t, b, "t")
		words := r.plain(b, c, []string{"cat", "dbl", "wx", "wy", "wa", "far", "wz"}, 100)
		m := &reading{b: b, c: c}
		if code, _ := m.words(placed(words...), behind); code != api.ErrGoal {
			continue
		}
		c.Goal = m.entries[0]
		v := Text(b, c, placed(words...), behind)
		if v.Code != api.OK {
			t.Fatalf("P14.2: %q proves %v: %v", words, c.Goal, v)
		}
		tried++
		if slices.Contains(words, "far") {
			apart++
		}
		least := without(b, c, words)
		if got := Text(b, least, placed(words...), behind); got != v {
			t.Fatalf("P14.7: %q: %v, but with what it names alone: %v", words, v, got)
		}
		for range 8 {
			for _, from := range []api.Context{c, least} {
				wide := r.wider(b, from, words)
				if got := Text(b, wide, placed(words...), behind); got != v {
					t.Fatalf("P14.7: %q in %v: %v, but in %v: %v", words, from, v, wide, got)
				}
			}
		}
	}
	if tried < 200 || apart < 50 {
		t.Errorf("P14.7: %d proofs, %d of them with pairs: hardly tried", tried, apart)
	}
}

// P14.7: the theorem id of the chapter, with one thing more after the other.
func TestWiderByHand(t *testing.T) {
	b := loaded(t, chapter)
	a, _ := b.At(4)
	c, _ := b.Context(4)
	want := api.Verdict{Count: 17, Peak: 9}
	for _, h := range []api.Hyp{{}, {Label: "wq2", Floating: true, Var: 5, Expr: []int{3, 5}}, {Label: "mn", Var: -1, Expr: []int{4, 5}}, {Label: "id", Var: -1, Expr: c.Goal}, {Label: "?", Expr: []int{0}}, {Label: "("}} {
		for _, hyps := range [][]api.Hyp{append(slices.Clone(c.Hyps), h), append([]api.Hyp{h}, c.Hyps...)} {
			wide := c
			wide.Hyps = hyps
			wide.Pairs = []api.Pair{{A: 6, B: 5}, {A: 5, B: 5}, {A: -1, B: 7}}
			for _, before := range []int{4, 5, 6, math.MaxInt} {
				wide.Before = before
				if v := Text(b, wide, a.Proof, a.End); v != want {
					t.Errorf("P14.7: id with %v more, Before %d: %v", h, before, v)
				}
			}
		}
	}
	// A hypothesis more under a label that the proof names is another matter.
	c.Hyps = append([]api.Hyp{{Label: "a1", Var: -1, Expr: c.Goal}}, c.Hyps...)
	if v := Text(b, c, a.Proof, a.End); v.Code == api.OK {
		t.Errorf("P14.7: id with another a1: %v", v)
	}
}
