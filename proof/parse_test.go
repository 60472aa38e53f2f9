package proof

import (
	"math"
	"slices"
	"strings"
	"testing"

	"lemma/api"
	"lemma/letters"
	"lemma/stmt"
)

const (
	save = api.CodeSave
	open = api.CodeOpen
	bad  = api.CodeBad
)

var behind = api.Token{Text: "$.", At: api.Pos{Off: 99, Line: 3, Col: 14}}

// tokens makes words of texts, each with a place of its own: so two of one text are told apart.
func tokens(texts ...string) []api.Token {
	var l []api.Token
	for i, s := range texts {
		l = append(l, api.Token{Text: s, At: api.Pos{Off: 5 * i, Line: i + 1, Col: 4 - i}})
	}
	return l
}

func words(text string) []api.Token { return tokens(strings.Fields(text)...) }

// numbers gives what codes say, without their words.
func numbers(l []api.Code) []int {
	var ns []int
	for _, c := range l {
		ns = append(ns, c.N)
	}
	return ns
}

// same tells whether two proofs are the same; no list and an empty one are.
func same(p, q api.Proof) bool {
	return p.Form == q.Form && slices.Equal(p.Labels, q.Labels) && slices.Equal(p.Codes, q.Codes) && p.Broken == q.Broken && p.Cut == q.Cut && p.End == q.End
}

func checkParse(t *testing.T, list []api.Token, want api.Proof) {
	t.Helper()
	want.End = behind
	if p := Parse(list, behind); !same(p, want) {
		t.Errorf("P10.1: Parse(%.300v) = %.300v, want %.300v", list, p, want)
	}
}

// checkPlain holds that a text's words are a plain proof, every word a label.
func checkPlain(t *testing.T, text string) {
	t.Helper()
	checkParse(t, words(text), api.Proof{Form: api.FormPlain, Labels: words(text)})
}

// checkPacked holds a packed proof against what is wanted: how many labels there are, and its codes with the numbers of their words, two by two.
func checkPacked(t *testing.T, text string, labels int, cut bool, codes ...int) {
	t.Helper()
	list := words(text)
	want := api.Proof{Form: api.FormPacked, Labels: list[1 : 1+labels], Cut: cut}
	for i := 0; i < len(codes); i += 2 {
		want.Codes = append(want.Codes, api.Code{N: codes[i], At: list[codes[i+1]]})
	}
	checkParse(t, list, want)
}

// checkBroken holds that a text's words are a packed proof whose bracket does not end.
func checkBroken(t *testing.T, text string) {
	t.Helper()
	checkParse(t, words(text), api.Proof{Form: api.FormPacked, Labels: words(text)[1:], Broken: true})
}

// P10.1: a proof whose first word is not "(" is plain, all its words are labels, whatever they are; so is one of no words.
func TestParsePlain(t *testing.T) {
	checkParse(t, nil, api.Proof{Form: api.FormPlain})
	checkParse(t, []api.Token{}, api.Proof{Form: api.FormPlain})
	for _, text := range []string{
		"a", "a b", "a a a", "wph wps ?", "?", "? ?",
		")", ") a (", ") A Z", ") ) )", "a ( b ) A", "a (", "a )", "a ( ( ) )", "? ( a ) A",
		"(( a ) A", "(a ) A", "() A", "(a) A", "[ a ] A", "{ a ) A", "$( a ) A",
		"A", "AB Z", "UA", "U", "Z", "$= $.", "\x01 \xff", "é",
	} {
		checkPlain(t, text)
	}
	for _, first := range []string{"", " ", " (", "( ", "(\n", "\x00("} {
		list := tokens(first, "a", ")", "A")
		checkParse(t, list, api.Proof{Form: api.FormPlain, Labels: list})
	}
}

// P10.1: a proof whose first word is "(" is packed: labels up to the first ")", codes behind it.
func TestParsePacked(t *testing.T) {
	checkPacked(t, "( a ) AB Z", 1, false, 0, 3, 1, 3, save, 4)
	checkPacked(t, "( ) AU", 0, true, 0, 2)
	checkPacked(t, "( ( )", 1, false)
	checkPacked(t, "( )", 0, false)
	checkPacked(t, "( a )", 1, false)
	checkPacked(t, "( a b c ) C", 3, false, 2, 5)
	checkPacked(t, "( a a ) A", 2, false, 0, 4)
	checkPacked(t, "( a ( b ( ) A", 4, false, 0, 6)
	checkPacked(t, "( ( ( ( ) A", 3, false, 0, 5)
	checkPacked(t, "( ? ) A", 1, false, 0, 3)
	checkPacked(t, "( A UB Z ) A", 3, false, 0, 5)
	checkPacked(t, "( (a a) () $. ) A", 4, false, 0, 6)
	checkPacked(t, "( )) (( ) A", 2, false, 0, 4)
	list := tokens("(", "", "a b", "\xff", ")", "A")
	checkParse(t, list, api.Proof{Form: api.FormPacked, Labels: list[1:4], Codes: []api.Code{{N: 0, At: list[5]}}})
}

// P10.1: behind the first ")" all is letters, brackets too.
func TestParseBracketsBehind(t *testing.T) {
	checkPacked(t, "( a ) ( )", 1, false, bad, 3, bad, 4)
	checkPacked(t, "( ) )", 0, false, bad, 2)
	checkPacked(t, "( ) ) A", 0, false, bad, 2, 0, 3)
	checkPacked(t, "( ) ( a ) A", 0, false, bad, 2, bad, 3, bad, 4, 0, 5)
	checkPacked(t, "( a ) U )", 1, false, bad, 4, bad, 4)
}

// P10.1: letters that end within a number: Cut, no code for them; letters that are none: CodeBad.
func TestParseLetters(t *testing.T) {
	checkPacked(t, "( a ) U", 1, true)
	checkPacked(t, "( a ) U V Y", 1, true)
	checkPacked(t, "( a ) AUZ YY", 1, true, 0, 3, bad, 3, save, 3)
	checkPacked(t, "( a ) a", 1, false, bad, 3)
	checkPacked(t, "( a ) a U", 1, true, bad, 3)
	checkPacked(t, "( a ) aU b", 1, false, bad, 3, bad, 4, bad, 4)
	checkPacked(t, "( a ) UZ", 1, false, bad, 3, save, 3)
	checkPacked(t, "( a ) U?", 1, false, bad, 3, open, 3)
	checkPacked(t, "( a ) ZZ?", 1, false, save, 3, save, 3, open, 3)
	checkPacked(t, "( ) "+strings.Repeat("Y", 100)+"A", 0, false, 1<<50, 2)
}

// P10.1: each code is told with the word in which it ends, also of two words of one text.
func TestParseTellsWords(t *testing.T) {
	checkPacked(t, "( a ) A A A", 1, false, 0, 3, 0, 4, 0, 5)
	checkPacked(t, "( a ) U A ? a", 1, false, 20, 4, open, 5, bad, 6)
	checkPacked(t, "( a ) AU BU V CZ", 1, false, 0, 3, 21, 4, 20*(5+2)+2, 6, save, 6)
	checkPacked(t, "( a ) U Z", 1, false, bad, 4, save, 4)
	list := tokens("(", ")", "U", "", "", "TA", "")
	checkParse(t, list, api.Proof{Form: api.FormPacked, Codes: []api.Code{{N: 39, At: list[5]}, {N: 0, At: list[5]}}})
}

// P10.1: without a ")" all words behind the "(" are labels, nothing is letters, and nothing is cut off.
func TestParseBroken(t *testing.T) {
	for _, text := range []string{"(", "( a", "( a b", "( (", "( ( (", "( A U", "( U", "( a ? Z", "( a )A", "( a) A", "( )) A", "( () A", "( a $) U"} {
		checkBroken(t, text)
	}
	list := tokens("(", "a", ") ", " )", "", "U")
	checkParse(t, list, api.Proof{Form: api.FormPacked, Labels: list[1:], Broken: true})
}

// P10.1: End is the token behind the proof, as it is, whatever it is and whatever form the proof has.
func TestParseEnd(t *testing.T) {
	for _, end := range []api.Token{{}, behind, {Text: ")"}, {Text: "A", At: api.Pos{Off: 1}}, {Text: "a b\xff", At: api.Pos{Off: math.MinInt, Line: -1, Col: math.MaxInt}}} {
		for _, text := range []string{"", "a b", ")", "(", "( a", "( )", "( a ) AB Z", "( a ) U", "( a ) a"} {
			p := Parse(words(text), end)
			if p.End != end {
				t.Errorf("P10.1: Parse(%q): End is %v, want %v", text, p.End, end)
			}
			want := Parse(words(text), behind)
			want.End = end
			if !same(p, want) {
				t.Errorf("P10.1: Parse(%q) = %v with the end %v, want %v", text, p, end, want)
			}
		}
	}
}

// P10.1: the words of a theorem's proof, and the "$." behind them, with their places in a text.
func TestParseTheorem(t *testing.T) {
	l, fault := stmt.Read("t $p w x $= ( ax-1\n$( ) $) ax-2 ) AB\n ZU C $.\nu $p w $= wx ? $.")
	if fault != nil || len(l) != 2 {
		t.Fatal(l, fault)
	}
	p, q := Parse(l[0].Proof, l[0].End), Parse(l[1].Proof, l[1].End)
	at := func(text string, off, line, col int) api.Token {
		return api.Token{Text: text, At: api.Pos{Off: off, Line: line, Col: col}}
	}
	if want := (api.Proof{
		Form:   api.FormPacked,
		Labels: []api.Token{at("ax-1", 14, 1, 15), at("ax-2", 27, 2, 9)},
		Codes:  []api.Code{{N: 0, At: at("AB", 34, 2, 16)}, {N: 1, At: at("AB", 34, 2, 16)}, {N: save, At: at("ZU", 38, 3, 2)}, {N: 22, At: at("C", 41, 3, 5)}},
		End:    at("$.", 43, 3, 7),
	}); !same(p, want) {
		t.Errorf("P10.1: %v, want %v", p, want)
	}
	if want := (api.Proof{Form: api.FormPlain, Labels: []api.Token{at("wx", 56, 4, 11), at("?", 59, 4, 14)}, End: at("$.", 61, 4, 16)}); !same(q, want) {
		t.Errorf("P10.1: %v, want %v", q, want)
	}
}

// model takes words apart a second way: one by one, as they come.
func model(list []api.Token, end api.Token) api.Proof {
	p := api.Proof{Form: api.FormPlain, End: end}
	var said []api.Token
	for i, w := range list {
		switch {
		case i == 0 && w.Text == "(":
			p.Form, p.Broken = api.FormPacked, true
		case p.Form == api.FormPlain || p.Broken && w.Text != ")":
			p.Labels = append(p.Labels, w)
		case p.Broken:
			p.Broken = false
		default:
			said = append(said, w)
		}
	}
	p.Codes, p.Cut = letters.Decode(said)
	return p
}

// eachList hands on every list of at most so many of these words.
func eachList[T any](pieces []T, most int, f func([]T)) {
	var grow func([]T)
	grow = func(l []T) {
		f(l)
		if len(l) == most {
			return
		}
		for _, p := range pieces {
			grow(append(slices.Clone(l), p))
		}
	}
	grow(nil)
}

// P10.1: all short lists of the words that matter are taken apart as the model says.
func TestParseShort(t *testing.T) {
	agree := func(texts []string) {
		list := tokens(texts...)
		if p, want := Parse(list, behind), model(list, behind); !same(p, want) {
			t.Fatalf("P10.1: Parse(%q) = %v, want %v", texts, p, want)
		}
	}
	eachList([]string{"(", ")", "a", "A", "UZ", "U", "?", ""}, 5, agree)
	eachList([]string{"(", ")", "U"}, 9, agree)
}

// P10.1: lists of many words.
func TestParseLong(t *testing.T) {
	const many = 200000
	for _, texts := range [][]string{
		slices.Repeat([]string{"a"}, many),
		slices.Repeat([]string{"("}, many),
		slices.Repeat([]string{")"}, many),
		slices.Concat([]string{"("}, slices.Repeat([]string{"a"}, many), []string{")"}, slices.Repeat([]string{"AZU"}, many)),
	} {
		list := tokens(texts...)
		if p, want := Parse(list, behind), model(list, behind); !same(p, want) {
			t.Errorf("P10.1: %d words, the first %q: %d labels, %d codes, want %d and %d", len(texts), texts[0], len(p.Labels), len(p.Codes), len(want.Labels), len(want.Codes))
		}
	}
}
