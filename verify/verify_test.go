package verify

import (
	"math"
	"slices"
	"strings"
	"testing"

	"lemma/api"
	"lemma/base"
)

// chapter is the text M of chapter 8.
const chapter = `$c ( ) -> wff |- $.
$v p q r $.
wp $f wff p $.
wq $f wff q $.
wr $f wff r $.
wi $a wff ( p -> q ) $.
a1 $a |- ( p -> ( q -> p ) ) $.
a2 $a |- ( ( p -> ( q -> r ) ) -> ( ( p -> q ) -> ( p -> r ) ) ) $.
${
  mn $e |- p $.
  mj $e |- ( p -> q ) $.
  mp $a |- q $.
$}
id $p |- ( p -> p ) $=
  wp wp wp wi wi wp wp wi wp wp a1 wp wp wp wi wp wi wi wp wp wp wi wi
  wp wp wi wi wp wp wp wi a1 wp wp wp wi wp a2 mp mp $.
`

// many is a text with an assertion for each error of a step.
const many = `$c wff |- -> ( ) $. $v x y z $.
wx $f wff x $. wy $f wff y $. wz $f wff z $.
wi $a wff ( x -> y ) $.
${ min $e |- x $. maj $e |- ( x -> y ) $. mp $a |- y $. $}
${ $d x y $. dp $a wff x y $. $}
none $a wff ( ) $.
dd $a wff x x $.
${ hx $e |- x $. in $p |- ( x -> y ) $= ? $. $}
t $p wff ( x -> y ) $= ? $.
late $a wff x $.`

func loaded(t *testing.T, text string) *base.Base {
	t.Helper()
	b, fault := base.Load(text)
	if fault != nil {
		t.Fatalf("the text is refused: %v", *fault)
	}
	return b
}

// contextOf gives where an assertion's proof stands.
func contextOf(t *testing.T, b *base.Base, label string) api.Context {
	t.Helper()
	n, found := b.Find(label)
	c, _ := b.Context(n)
	if !found {
		t.Fatalf("no assertion: %q", label)
	}
	return c
}

// behind is the token behind a proof.
var behind = api.Token{Text: "$.", At: api.Pos{Off: 1 << 20, Line: 1 << 10, Col: 7}}

// placed gives words, each at a place of its own.
func placed(words ...string) []api.Token {
	all := Words(words)
	for i := range all {
		all[i].At = api.Pos{Off: 3 * i, Line: i + 1, Col: 1}
	}
	return all
}

// says holds the verdict on words in a context: at is the number of the word that offends, -1 what is behind the proof; of a proof that is accepted it is not looked at.
func says(t *testing.T, b *base.Base, c api.Context, text string, code api.Errno, at, count, peak int) {
	t.Helper()
	words := placed(strings.Fields(text)...)
	want := api.Verdict{Code: code, Count: count, Peak: peak}
	switch {
	case code != api.OK && at < 0:
		want.At = behind
	case code != api.OK:
		want.At = words[at]
	}
	if v := Text(b, c, words, behind); v != want {
		t.Errorf("P14.2: Text(%.200q): %v, want %v", text, v, want)
	}
}

// P14.2, P14.4, P14.5: the chapter's first example.
func TestExampleTheorem(t *testing.T) {
	b := loaded(t, chapter)
	want := api.Verdict{Label: "id", Count: 17, Peak: 9}
	if v, code := Theorem(b, 4); v != want || code != api.OK {
		t.Errorf("P14.4: Theorem(M, 4): %v, %d, want %v", v, code, want)
	}
	for _, n := range []int{0, 5, -1} {
		if v, code := Theorem(b, n); v != (api.Verdict{}) || code != api.ErrNone {
			t.Errorf("R12: Theorem(M, %d): %v, %d", n, v, code)
		}
	}
	if l := All(b, 3); !slices.Equal(l, []api.Verdict{want}) {
		t.Errorf("P14.5: All(M, 3): %v", l)
	}
	a, _ := b.At(4)
	applied := map[string]int{}
	for _, word := range a.Proof {
		if _, found := b.Find(word.Text); found {
			applied[word.Text]++
		}
	}
	if applied["wi"] != 12 || applied["a1"] != 2 || applied["a2"] != 1 || applied["mp"] != 2 || len(applied) != 4 {
		t.Errorf("P14.4: id applies %v", applied)
	}
}

// P14.2: the chapter's second and third examples.
func TestExampleText(t *testing.T) {
	b := loaded(t, chapter)
	c := contextOf(t, b, "id")
	says(t, b, c, "wp", api.ErrGoal, -1, 0, 1)
	says(t, b, c, "wp wp", api.ErrLeft, -1, 0, 2)
	says(t, b, c, "", api.ErrLeft, -1, 0, 0)
	says(t, b, c, "wp wi", api.ErrUnder, 1, 0, 1)
	says(t, b, c, "wp wq wi", api.ErrGoal, -1, 1, 2)
	says(t, b, c, "zz", api.ErrUnknown, 0, 0, 0)
	says(t, b, c, "id", api.ErrLater, 0, 0, 0)
	says(t, b, c, "mn", api.ErrHidden, 0, 0, 0)
	says(t, b, c, "?", api.ErrMissing, 0, 0, 0)
	says(t, b, c, "wp wp wi wp a1", api.ErrGoal, -1, 2, 2)
	says(t, b, c, "wp wp wi mn", api.ErrHidden, 3, 1, 2)

	says(t, b, c, "(", api.ErrList, -1, 0, 0)
	says(t, b, c, "( wi", api.ErrList, -1, 0, 0)
	says(t, b, c, "( wp ) A", api.ErrList, 1, 0, 0)
	says(t, b, c, "( zz", api.ErrUnknown, 1, 0, 0)
	says(t, b, c, "( ) A", api.ErrGoal, -1, 0, 1)
	says(t, b, c, "( ) a", api.ErrLetters, 2, 0, 0)
	says(t, b, c, "( ) Z", api.ErrSave, 2, 0, 0)
	says(t, b, c, "( ) B", api.ErrNumber, 2, 0, 0)
	says(t, b, c, "( ) U", api.ErrCut, -1, 0, 0)
	says(t, b, c, "( ) ?", api.ErrMissing, 2, 0, 0)
	// A wp, B wi, C a1, D a2, E mp, F the saved ( p -> p ): the chapter's proof, packed.
	says(t, b, c, "( wi a1 a2 mp ) AAABZBFAACAFABBAFBFBAFCAFADEE", api.OK, 0, 11, 9)
}

// Hard place: a theorem that cites one that is not proved may be proved.
func TestCitesUnproved(t *testing.T) {
	b := loaded(t, `$c w a $. open $p w a $= ? $. left $p w a $= open open $. by $p w a $= open $. folded $p w a $= ( left ) A $. own $p w a $= own $. by2 $p w a $= own $.`)
	want := []api.Verdict{
		{Label: "open", Code: api.ErrMissing}, {Label: "left", Code: api.ErrLeft, Count: 2, Peak: 2},
		{Label: "by", Count: 1, Peak: 1}, {Label: "folded", Count: 1, Peak: 1},
		{Label: "own", Code: api.ErrLater}, {Label: "by2", Count: 1, Peak: 1},
	}
	l := All(b, 2)
	for n, v := range want {
		got, code := Theorem(b, n)
		got.At = api.Token{}
		if code != api.OK || got != v || len(l) != len(want) {
			t.Errorf("P14.2: the theorem %d: %v, %d, want %v", n, got, code, v)
			continue
		}
		l[n].At = api.Token{}
		if l[n] != v {
			t.Errorf("P14.5: the theorem %d of all: %v, want %v", n, l[n], v)
		}
	}
}

// The tokens that are told are those of the text: the word that offends, or the "$." behind the proof.
func TestTokensOfTheText(t *testing.T) {
	text := "$c w a $.\nopen $p w a $=\n  ? $.\nnothing $p w a $= $.\nlist $p w a $= (\n $.\nlet $p w a $= ( open )\nA\tA b $.\ngood $p w a $= open $."
	b := loaded(t, text)
	type place struct {
		code  api.Errno
		text  string
		lines [2]int
	}
	for n, want := range []place{{api.ErrMissing, "?", [2]int{3, 3}}, {api.ErrLeft, "$.", [2]int{4, 19}}, {api.ErrList, "$.", [2]int{6, 2}}, {api.ErrLetters, "b", [2]int{8, 5}}, {}} {
		v, code := Theorem(b, n)
		got := place{v.Code, v.At.Text, [2]int{v.At.At.Line, v.At.At.Col}}
		if code != api.OK || got != want || !strings.HasPrefix(text[v.At.At.Off:], v.At.Text) {
			t.Errorf("P14.2: the theorem %d: %v, %d, want %v", n, v, code, want)
		}
		if v.Code == api.OK && v.At != (api.Token{}) {
			t.Errorf("P14.2: an accepted proof is told at %v", v.At)
		}
	}
}

// R12: numbers that are no theorem's: below 0, of axioms, behind the last assertion, of a base without one.
func TestNoTheorem(t *testing.T) {
	b := loaded(t, many)
	for n := -3; n < b.Count()+3; n++ {
		a, there := b.At(n)
		v, code := Theorem(b, n)
		isTheorem := there == api.OK && a.Theorem
		if isTheorem && (code != api.OK || v.Label != a.Label) || !isTheorem && (code != api.ErrNone || v != (api.Verdict{})) {
			t.Errorf("R12: Theorem(%d): %v, %d", n, v, code)
		}
	}
	for _, text := range []string{many, chapter, "", "$c a $. x $a a $. y $a a $."} {
		b := loaded(t, text)
		for _, n := range []int{math.MinInt, math.MinInt + 1, -1 << 31, -1, b.Count(), b.Count() + 1, 1 << 31, math.MaxInt} {
			if v, code := Theorem(b, n); v != (api.Verdict{}) || code != api.ErrNone {
				t.Errorf("R12: Theorem(%d): %v, %d", n, v, code)
			}
		}
	}
	axioms := loaded(t, "$c a $. x $a a $. y $a a $.")
	for n := range 2 {
		if v, code := Theorem(axioms, n); v != (api.Verdict{}) || code != api.ErrNone {
			t.Errorf("R12: Theorem(%d) of a base without a theorem: %v, %d", n, v, code)
		}
	}
}

// Theorem is Text of the proof's words and its end, in its context, with its label.
func TestTheoremIsText(t *testing.T) {
	for _, text := range []string{chapter, many, mixed} {
		b := loaded(t, text)
		for n := range b.Count() {
			a, _ := b.At(n)
			if !a.Theorem {
				continue
			}
			c, _ := b.Context(n)
			want := Text(b, c, a.Proof, a.End)
			if want.Label != "" {
				t.Errorf("the label of a proof's words in a context: %q", want.Label)
			}
			want.Label = a.Label
			if v, code := Theorem(b, n); v != want || code != api.OK {
				t.Errorf("Theorem(%d): %v, %d, want %v", n, v, code, want)
			}
		}
	}
}

// Words: a token for each string, whatever it is, at the zero place.
func TestWords(t *testing.T) {
	for _, l := range [][]string{nil, {}, {""}, {"a"}, {"wp", "wi", "wp"}, {"a b", "\xff\x00", "$.", "", "("}, slices.Repeat([]string{"x"}, 5000)} {
		words := Words(l)
		if len(words) != len(l) {
			t.Fatalf("Words(%.100q): %d tokens", l, len(words))
		}
		for i, word := range words {
			if word != (api.Token{Text: l[i]}) {
				t.Errorf("Words(%.100q): %v at %d", l, word, i)
			}
		}
	}
}
