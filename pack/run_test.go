package pack

import (
	"slices"
	"strings"
	"testing"

	"lemma/api"
	"lemma/base"
	"lemma/proof"
)

// chapter is the base of the chapter's examples.
const chapter = `$c wff |- ( ) -> $. $v p q $. wp $f wff p $. wq $f wff q $.
wi $a wff ( p -> q ) $.
a1 $a |- ( p -> ( q -> p ) ) $.
t $p |- ( p -> ( p -> p ) ) $= ? $.`

// many is a text with an assertion for each error of a step.
const many = `$c wff |- -> ( ) $. $v x y z $.
wx $f wff x $. wy $f wff y $. wz $f wff z $.
wi $a wff ( x -> y ) $.
${ min $e |- x $. maj $e |- ( x -> y ) $. mp $a |- y $. $}
${ $d x y $. dp $a wff x y $. $}
none $a wff ( ) $.
dd $a wff x x $.
${ hx $e |- x $. in $p |- ( x -> y ) $= ? $. $}
t $p wff ( x -> y ) $= ? $.
late $a wff x $.`

// behind is the token behind a proof.
var behind = api.Token{Text: "$.", At: api.Pos{Off: 99999, Line: 7, Col: 3}}

func loaded(t *testing.T, text string) *base.Base {
	t.Helper()
	b, fault := base.Load(text)
	if fault != nil {
		t.Fatalf("the text is refused: %v", *fault)
	}
	return b
}

// contextOf gives where an assertion's proof stands.
func contextOf(t *testing.T, b *base.Base, label string) api.Context {
	t.Helper()
	n, found := b.Find(label)
	c, _ := b.Context(n)
	if !found {
		t.Fatalf("no assertion: %q", label)
	}
	return c
}

// placed gives words, each at a place of its own.
func placed(words ...string) []api.Token {
	var all []api.Token
	for i, word := range words {
		all = append(all, api.Token{Text: word, At: api.Pos{Off: 3 * i, Line: i + 1, Col: 1}})
	}
	return all
}

// runs holds the run of a proof's words against the verdict: at says which word it is at, the bracket is number 0; below 0 it is at the end.
func runs(t *testing.T, b *base.Base, c api.Context, words string, code api.Errno, at, count, peak int) {
	t.Helper()
	tokens := placed(strings.Fields(words)...)
	want := api.Verdict{Code: code, Count: count, Peak: peak}
	switch {
	case code == api.OK:
	case at < 0:
		want.At = behind
	default:
		want.At = tokens[at]
	}
	if v := Run(b, c, proof.Parse(tokens, behind)); v != want {
		t.Errorf("P12.1: Run of %.100q: %v, want %v", words, v, want)
	}
}

// P12.1: the chapter's examples.
func TestExamples(t *testing.T) {
	b := loaded(t, chapter)
	c := contextOf(t, b, "t")
	runs(t, b, c, "( a1 ) AAB", api.OK, 0, 1, 2)
	runs(t, b, c, "( ) A", api.ErrGoal, -1, 0, 1)
	runs(t, b, c, "( a1 ) AABA", api.ErrLeft, -1, 1, 2)

	runs(t, b, c, "( wi a1 ) AAB", api.ErrGoal, -1, 1, 2)
	runs(t, b, c, "( wi a1 ) AZBD", api.ErrUnder, 4, 0, 1)
	runs(t, b, c, "( wi a1 ) AZDC", api.OK, 0, 1, 2)
	runs(t, b, c, "( wi a1 ) AABZC", api.ErrUnder, 4, 1, 2)

	runs(t, b, c, "( a1 ) D", api.ErrNumber, 3, 0, 0)
	runs(t, b, c, "( a1 ) ZA", api.ErrSave, 3, 0, 0)
	runs(t, b, c, "( a1 ) AZZ", api.ErrSave, 3, 0, 1)
	runs(t, b, c, "( a1 ) A?", api.ErrMissing, 3, 0, 1)
	runs(t, b, c, "( a1 ) AaB", api.ErrLetters, 3, 0, 1)
	runs(t, b, c, "( a1 ) AAU", api.ErrCut, -1, 0, 2)
	runs(t, b, c, "( a1 ) AAUZ", api.ErrLetters, 3, 0, 2)

	runs(t, b, c, "( wp ) A", api.ErrList, 1, 0, 0)
	runs(t, b, c, "( wq wq ) A", api.ErrList, 2, 0, 0)
	runs(t, b, c, "( t ) A", api.ErrLater, 1, 0, 0)
	runs(t, b, c, "( nix ) A", api.ErrUnknown, 1, 0, 0)
	runs(t, b, c, "( a1", api.ErrList, -1, 0, 0)
	runs(t, b, c, "( nix", api.ErrUnknown, 1, 0, 0)

	runs(t, b, c, "( wq ) AB", api.ErrLeft, -1, 0, 2)
	runs(t, b, c, "( wq a1 ) ABC", api.ErrGoal, -1, 1, 2)
}

// P12.1: a form that is not the packed one is refused at the end, ahead of all else that is wrong.
func TestOtherForms(t *testing.T) {
	b := loaded(t, chapter)
	c := contextOf(t, b, "t")
	for _, form := range []int{0, api.FormPlain, 3, -1, -1 << 63, 1<<63 - 1} {
		for _, words := range []string{"( a1 ) AAB", "( nix ) AAB", "( wp ) ZZ", "( a1 ) U", "( a1", "( ) ?", "( )"} {
			p := proof.Parse(placed(strings.Fields(words)...), behind)
			p.Form = form
			if v := Run(b, c, p); v != (api.Verdict{Code: api.ErrList, At: behind}) {
				t.Errorf("P12.1: %q of the form %d: %v", words, form, v)
			}
		}
	}
	if v := Run(b, c, proof.Parse(placed("wp", "wp", "a1"), behind)); v != (api.Verdict{Code: api.ErrList, At: behind}) {
		t.Errorf("P12.1: a plain proof: %v", v)
	}
	if v := Run(b, c, api.Proof{}); v != (api.Verdict{Code: api.ErrList}) {
		t.Errorf("P12.1: the empty proof: %v", v)
	}
}

// P12.1: each word in the brackets with each error, whether a number calls it or not; the first that offends is told, ahead of the codes.
func TestBrackets(t *testing.T) {
	b := loaded(t, many)
	c := contextOf(t, b, "t")
	bad := []struct {
		word string
		code api.Errno
	}{
		{"no", api.ErrUnknown}, {"?", api.ErrUnknown}, {"(", api.ErrUnknown}, {"WX", api.ErrUnknown}, {"wff", api.ErrUnknown},
		{"min", api.ErrHidden}, {"hx", api.ErrHidden},
		{"t", api.ErrLater}, {"late", api.ErrLater},
		{"wx", api.ErrList}, {"wy", api.ErrList},
	}
	for i, x := range bad {
		for _, codes := range []string{"", "ABC", "ABD", "Z", "U", "?", "a", "T"} {
			runs(t, b, c, "( "+x.word+" ) "+codes, x.code, 1, 0, 0)
			runs(t, b, c, "( wi "+x.word+" ) "+codes, x.code, 2, 0, 0)
			runs(t, b, c, "( wi wz "+x.word+" in ) "+codes, x.code, 3, 0, 0)
			second := bad[(i+4)%len(bad)].word
			runs(t, b, c, "( wi "+x.word+" "+second+" ) "+codes, x.code, 2, 0, 0)
		}
		runs(t, b, c, "( wi "+x.word, x.code, 2, 0, 0)
		runs(t, b, c, "( "+x.word+" "+x.word+" ) A", x.code, 1, 0, 0)
		runs(t, b, c, "( wi "+x.word+" wi ) A", x.code, 2, 0, 0)
		runs(t, b, c, "( wi wi "+x.word+" ) A", api.ErrList, 2, 0, 0)
	}
	for _, twice := range []string{"wi", "none", "wz", "mp", "in"} {
		runs(t, b, c, "( "+twice+" "+twice+" ) A", api.ErrList, 2, 0, 0)
		runs(t, b, c, "( "+twice+" dp "+twice+" ) ABF", api.ErrList, 3, 0, 0)
		runs(t, b, c, "( dp "+twice+" dd "+twice, api.ErrList, 4, 0, 0)
	}
	runs(t, b, c, "( wz wi mp dp none dd in ) ABD", api.OK, 0, 1, 2)
	inside := contextOf(t, b, "in")
	runs(t, b, inside, "( hx ) A", api.ErrList, 1, 0, 0)
	runs(t, b, inside, "( min ) A", api.ErrHidden, 1, 0, 0)
	runs(t, b, inside, "( in ) A", api.ErrLater, 1, 0, 0)
	runs(t, b, inside, "( wz dd ) DEE", api.ErrGoal, -1, 2, 1)
}

// P12.1: a bracket that does not end is told at the end, behind its words and ahead of all codes, also of such as a parsed proof has not.
func TestBroken(t *testing.T) {
	b := loaded(t, chapter)
	c := contextOf(t, b, "t")
	runs(t, b, c, "( wi a1 AAB", api.ErrUnknown, 3, 0, 0)
	want := api.Verdict{Code: api.ErrList, At: behind}
	for _, words := range []string{"( a1", "(", "( wi wq a1"} {
		p := proof.Parse(placed(strings.Fields(words)...), behind)
		for _, codes := range [][]int{nil, {0, 0, 1}, {api.CodeSave}, {api.CodeBad}, {99}} {
			p.Codes = coded(codes...)
			for _, cut := range []bool{false, true} {
				p.Cut = cut
				if v := Run(b, c, p); v != want {
					t.Errorf("P12.1: %q with the codes %v: %v, want %v", words, codes, v, want)
				}
			}
		}
	}
}

// coded gives codes, each at a place of its own.
func coded(numbers ...int) []api.Code {
	var all []api.Code
	for i, n := range numbers {
		all = append(all, codeAt(i, n))
	}
	return all
}

func codeAt(i, n int) api.Code {
	return api.Code{N: n, At: api.Token{Text: "code", At: api.Pos{Off: 500 + i, Line: 9, Col: i}}}
}

// P12.1: each error of a code, at its own word, with what was counted up to there.
func TestCodes(t *testing.T) {
	b := loaded(t, many)
	c := contextOf(t, b, "t")
	// A wx, B wy, C wi, D wz, E mp, F dp, G none, H dd.
	list := "( wi wz mp dp none dd ) "
	runs(t, b, c, list+"A B C", api.OK, 0, 1, 2)
	runs(t, b, c, list+"A C", api.ErrUnder, 9, 0, 1)
	runs(t, b, c, list+"A B D C E", api.ErrUnder, 12, 1, 3)
	runs(t, b, c, list+"A B A A B C E", api.ErrHyp, 14, 1, 5)
	runs(t, b, c, list+"A B F", api.ErrApart, 10, 0, 2)
	runs(t, b, c, list+"A Z I F", api.ErrApart, 11, 0, 2)
	runs(t, b, c, list+"A G F C", api.ErrUnder, 11, 2, 2)
	runs(t, b, c, list+"G H H H H H H", api.ErrGoal, -1, 7, 1)
	runs(t, b, c, list+"G H H H H H H H", api.ErrTooLong, 15, 7, 1)
	runs(t, b, c, list+"A ? B", api.ErrMissing, 9, 0, 1)
	runs(t, b, c, list+"A . B", api.ErrLetters, 9, 0, 1)
	runs(t, b, c, list+"A B C Z ? Z", api.ErrMissing, 12, 1, 2)
	runs(t, b, c, list+"A U ? B", api.ErrLetters, 10, 0, 1)
	runs(t, b, c, list+"A UA B", api.ErrNumber, 9, 0, 1)
	runs(t, b, c, list+"A U A B", api.ErrNumber, 10, 0, 1)
	runs(t, b, c, list+"A "+strings.Repeat("Y", 80)+"T B", api.ErrNumber, 9, 0, 1)
	runs(t, b, c, list+"G Z B B I C C", api.ErrLeft, -1, 3, 4)
	inside := contextOf(t, b, "in")
	runs(t, b, inside, "( wi ) A C D", api.ErrKind, 5, 0, 2)
	runs(t, b, inside, "( wi ) C Z E D", api.ErrKind, 6, 0, 2)
	runs(t, b, inside, "( mp wz ) A B C A D", api.ErrHyp, 8, 0, 4)
	runs(t, b, inside, "( dp none ) E A D", api.ErrGoal, -1, 2, 2)
}

// P12.1: a save at the beginning and behind a save; behind a hypothesis, a label, an assertion and a back reference.
func TestSaves(t *testing.T) {
	b := loaded(t, many)
	c := contextOf(t, b, "t")
	// A wx, B wy, C wi, D wz, E the first saved.
	list := "( wi wz ) "
	runs(t, b, c, list+"Z", api.ErrSave, 4, 0, 0)
	runs(t, b, c, list+"Z A B C", api.ErrSave, 4, 0, 0)
	runs(t, b, c, list+"A Z Z", api.ErrSave, 6, 0, 1)
	runs(t, b, c, list+"A B C Z Z", api.ErrSave, 8, 1, 2)
	runs(t, b, c, list+"A Z E Z Z", api.ErrSave, 8, 0, 2)
	runs(t, b, c, list+"A Z B C", api.OK, 0, 1, 2)
	runs(t, b, c, list+"A B Z C", api.OK, 0, 1, 2)
	runs(t, b, c, list+"A B C Z", api.OK, 0, 1, 2)
	runs(t, b, c, list+"A Z B Z C Z", api.OK, 0, 1, 2)
	runs(t, b, c, list+"A Z E C", api.ErrGoal, -1, 1, 2)
	runs(t, b, c, list+"A Z B E C", api.ErrLeft, -1, 1, 3)
	runs(t, b, c, list+"D Z E Z F Z G C C C", api.ErrGoal, -1, 3, 4)
	runs(t, b, c, list+"B D Z C Z A F C", api.ErrLeft, -1, 2, 3)

	c.Goal, _ = b.Read(strings.Fields("wff ( x -> x )"))
	runs(t, b, c, list+"A Z E C", api.OK, 0, 1, 2)
	runs(t, b, c, list+"A Z E Z C", api.OK, 0, 1, 2)
	c.Goal, _ = b.Read(strings.Fields("wff ( ( x -> y ) -> ( x -> y ) )"))
	runs(t, b, c, list+"A B C Z E C", api.OK, 0, 2, 2)
	runs(t, b, c, list+"A B C Z E Z C", api.OK, 0, 2, 2)
	runs(t, b, c, list+"A Z B Z C Z G C", api.OK, 0, 2, 2)
	runs(t, b, c, list+"A Z B Z C Z E F C C", api.OK, 0, 3, 3)
	runs(t, b, c, list+"A Z B Z C E Z F C C", api.OK, 0, 3, 3)
	runs(t, b, c, list+"A Z B Z C G C", api.ErrNumber, 9, 1, 2)
	c.Goal, _ = b.Read(strings.Fields("wff ( z -> z )"))
	runs(t, b, c, list+"D Z E C", api.OK, 0, 1, 2)
}

// P12.1: what was saved stays what it was, whatever is done to its entry.
func TestSavedStays(t *testing.T) {
	b := loaded(t, many)
	c := contextOf(t, b, "t")
	// A wx, B wy, C wi, D the saved x, E the saved ( x -> y ).
	c.Goal, _ = b.Read(strings.Fields("wff ( ( ( x -> y ) -> y ) -> ( x -> ( x -> y ) ) )"))
	runs(t, b, c, "( wi ) AZBCZBCDECC", api.OK, 0, 4, 3)
	runs(t, b, c, "( wi ) ABCZBCADCC", api.OK, 0, 4, 3)
	c.Goal, _ = b.Read(strings.Fields("wff ( ( y -> x ) -> ( y -> x ) )"))
	runs(t, b, c, "( wi ) BZADCZECEC", api.ErrLeft, -1, 3, 3)
	runs(t, b, c, "( wi ) BACZDC", api.OK, 0, 2, 2)
}

// P12.1: the greatest number that means something, and the next one, as steps are saved.
func TestNumbers(t *testing.T) {
	b := loaded(t, many)
	c := contextOf(t, b, "t")
	runs(t, b, c, "( ) B", api.ErrGoal, -1, 0, 1)
	runs(t, b, c, "( ) C", api.ErrNumber, 2, 0, 0)
	runs(t, b, c, "( ) AZC", api.ErrLeft, -1, 0, 2)
	runs(t, b, c, "( ) A C Z", api.ErrNumber, 3, 0, 1)
	runs(t, b, c, "( ) A Z D", api.ErrNumber, 4, 0, 1)
	runs(t, b, c, "( ) A Z C Z D", api.ErrLeft, -1, 0, 3)
	runs(t, b, c, "( ) A Z C Z E", api.ErrNumber, 6, 0, 2)
	runs(t, b, c, "( wz none ) D", api.ErrGoal, -1, 1, 1)
	runs(t, b, c, "( wz none ) E", api.ErrNumber, 4, 0, 0)
	runs(t, b, c, "( wz none ) DZE", api.ErrLeft, -1, 1, 2)
	runs(t, b, c, "( wz none ) D Z F", api.ErrNumber, 6, 1, 1)
	nothing := contextOf(t, loaded(t, "$c a $. t $p a $= ? $."), "t")
	runs(t, b, nothing, "( ) A", api.ErrNumber, 2, 0, 0)
	for _, n := range []int{2, 20, 1 << 31, 1 << 50, 1<<63 - 1} {
		p := api.Proof{Form: api.FormPacked, Codes: coded(1, n, api.CodeBad), End: behind}
		if v := Run(b, c, p); v != (api.Verdict{Code: api.ErrNumber, At: p.Codes[1].At, Peak: 1}) {
			t.Errorf("P12.1: the number %d: %v", n, v)
		}
	}
	for n, want := range map[int]api.Errno{api.CodeOpen: api.ErrMissing, api.CodeBad: api.ErrLetters, -4: api.ErrLetters, -1 << 40: api.ErrLetters, -1 << 63: api.ErrLetters} {
		for _, ahead := range [][]int{nil, {0}, {0, api.CodeSave}, {0, api.CodeSave, 2}} {
			p := api.Proof{Form: api.FormPacked, Codes: coded(append(ahead, n, 99)...), Cut: true, End: behind}
			v := Run(b, c, p)
			if v.Code != want || v.At != p.Codes[len(ahead)].At || v.Count != 0 || v.Peak != (len(ahead)+1)/2 {
				t.Errorf("P12.1: the code %d behind %v: %v", n, ahead, v)
			}
		}
	}
}

// P12.1: MaxProof codes, saves counted, and one more, whatever it is.
func TestSteps(t *testing.T) {
	b := loaded(t, "$c a $. x $a a $. ${ h $e a $. y $a a $. $} t $p a $= ? $.")
	c := contextOf(t, b, "t")
	most := "( x y ) A" + strings.Repeat("B", api.MaxProof-1)
	runs(t, b, c, most, api.OK, 0, 4000, 1)
	saving := "( x y ) A" + strings.Repeat("ZB", 1999) + "Z"
	runs(t, b, c, saving, api.OK, 0, 2000, 1)
	for _, more := range []string{"B", "A", "Z", "?", "a", "C", "YYT", "UZ", "B B", "? Z"} {
		runs(t, b, c, most+" "+more, api.ErrSteps, 5, 4000, 1)
		runs(t, b, c, saving+" "+more, api.ErrSteps, 5, 2000, 1)
	}
	runs(t, b, c, most+" U", api.ErrCut, -1, 4000, 1)
	runs(t, b, c, most[:len(most)-1]+" ?", api.ErrMissing, 5, 3999, 1)
	runs(t, b, c, most[:len(most)-1]+" a", api.ErrLetters, 5, 3999, 1)
	runs(t, b, c, most[:len(most)-1]+" Z", api.OK, 0, 3999, 1)
	runs(t, b, c, most[:len(most)-1]+" A", api.ErrLeft, -1, 4000, 2)
	runs(t, b, c, "( x y ) ? "+most[8:]+"B", api.ErrMissing, 4, 0, 0)
	// Saved 1999 times: the number of the last saved, and the one behind it.
	p := proof.Parse(placed(strings.Fields(saving[:len(saving)-2])...), behind)
	last := len(p.Codes)
	p.Codes = append(p.Codes, coded(2+1998)...)
	if v := Run(b, c, p); v != (api.Verdict{Code: api.ErrLeft, At: behind, Count: 1999, Peak: 2}) {
		t.Errorf("P12.1: the last of 1999 saved steps: %v", v)
	}
	p.Codes[last].N++
	if v := Run(b, c, p); v != (api.Verdict{Code: api.ErrNumber, At: p.Codes[last].At, Count: 1999, Peak: 1}) {
		t.Errorf("P12.1: the number behind 1999 saved steps: %v", v)
	}
}

// P12.1: more than MaxStack entries, by a hypothesis, a label, an assertion, a back reference.
func TestDeep(t *testing.T) {
	b := loaded(t, many)
	c := contextOf(t, b, "t")
	// A wx, B wy, C none, D wz, E wi, F the first saved.
	list := "( none wz wi ) "
	full := []string{strings.Repeat("A", 40), strings.Repeat("AZ", 40), "AZ" + strings.Repeat("F", 39), "AZ" + strings.Repeat("FZ", 39)}
	for _, codes := range full {
		runs(t, b, c, list+codes, api.ErrLeft, -1, 0, 40)
		for _, more := range []string{"A", "B", "C", "D"} {
			runs(t, b, c, list+codes+" "+more, api.ErrDeep, 6, 0, 40)
		}
		runs(t, b, c, list+codes+" E", api.ErrLeft, -1, 1, 40)
		runs(t, b, c, list+codes+" EAE", api.ErrLeft, -1, 2, 40)
		runs(t, b, c, list+codes+" EA A", api.ErrDeep, 7, 1, 40)
	}
	for _, codes := range full[1:] {
		runs(t, b, c, list+codes+" F", api.ErrDeep, 6, 0, 40)
		runs(t, b, c, list+codes+" EF F", api.ErrDeep, 7, 1, 40)
	}
	runs(t, b, c, list+full[0]+" Z", api.ErrLeft, -1, 0, 40)
	runs(t, b, c, list+full[0]+" Z F", api.ErrDeep, 7, 0, 40)
	runs(t, b, c, list+strings.Repeat("C", 40), api.ErrLeft, -1, 40, 40)
	runs(t, b, c, list+strings.Repeat("C", 40)+" C", api.ErrDeep, 6, 40, 40)
	c.Goal, _ = b.Read(strings.Fields("wff" + strings.Repeat(" ( x ->", 39) + " x" + strings.Repeat(" )", 39)))
	runs(t, b, c, list+"AZ"+strings.Repeat("F", 39)+strings.Repeat("E", 39), api.OK, 0, 39, 40)
}

// P12.1: no codes at all; letters that break off come ahead of what is left and of the goal.
func TestEnds(t *testing.T) {
	b := loaded(t, chapter)
	c := contextOf(t, b, "t")
	runs(t, b, c, "( )", api.ErrLeft, -1, 0, 0)
	runs(t, b, c, "( a1 wi )", api.ErrLeft, -1, 0, 0)
	runs(t, b, c, "( ) U", api.ErrCut, -1, 0, 0)
	runs(t, b, c, "( a1 wi ) Y", api.ErrCut, -1, 0, 0)
	runs(t, b, c, "( a1 ) AAB", api.OK, 0, 1, 2)
	runs(t, b, c, "( a1 ) AABU", api.ErrCut, -1, 1, 2)
	runs(t, b, c, "( a1 ) AAB XYW", api.ErrCut, -1, 1, 2)
	runs(t, b, c, "( a1 ) AABZU", api.ErrCut, -1, 1, 2)
	runs(t, b, c, "( a1 ) AA", api.ErrLeft, -1, 0, 2)
	runs(t, b, c, "( a1 ) AAU", api.ErrCut, -1, 0, 2)
	runs(t, b, c, "( a1 ) A", api.ErrGoal, -1, 0, 1)
	runs(t, b, c, "( a1 ) AV", api.ErrCut, -1, 0, 1)
	runs(t, b, c, "( a1 ) B U", api.ErrUnder, 3, 0, 0)
	runs(t, b, c, "( a1 ) C U", api.ErrNumber, 3, 0, 0)
	other := api.Token{Text: "elsewhere", At: api.Pos{Off: -5}}
	for _, cut := range []bool{false, true} {
		want := api.Verdict{Code: api.ErrLeft, At: other}
		if cut {
			want.Code = api.ErrCut
		}
		if v := Run(b, c, api.Proof{Form: api.FormPacked, Cut: cut, End: other}); v != want {
			t.Errorf("P12.1: no codes, cut %v: %v, want %v", cut, v, want)
		}
	}
	p := proof.Parse(placed("(", "a1", ")", "AAB"), other)
	if v := Run(b, c, p); v != (api.Verdict{Count: 1, Peak: 2}) {
		t.Errorf("P12.1: a proof that is OK, with another end: %v", v)
	}
}

// named holds the names of a proof against those wanted.
func named(t *testing.T, c api.Context, p api.Proof, want ...string) {
	t.Helper()
	if l := Names(c, p); !slices.Equal(l, want) {
		t.Errorf("P12.1: Names: %q, want %q", l, want)
	}
}

// P12.1: the names of numbers, of any context and any proof.
func TestNames(t *testing.T) {
	b := loaded(t, many)
	c := contextOf(t, b, "t")
	named(t, c, proof.Parse(placed("(", "wi", "wz", ")", "AB"), behind), "wx", "wy", "wi", "wz")
	named(t, c, proof.Parse(placed("(", "no", "wi", "no", "wx", "?", ")", "?"), behind), "wx", "wy", "no", "wi", "no", "wx", "?")
	named(t, c, proof.Parse(placed("(", "wi"), behind), "wx", "wy", "wi")
	named(t, c, proof.Parse(placed("wx", "wy", "wi"), behind), "wx", "wy", "wx", "wy", "wi")
	named(t, c, api.Proof{}, "wx", "wy")
	named(t, contextOf(t, b, "none"), proof.Parse(placed("(", "wi", ")"), behind), "wi")
	named(t, api.Context{}, api.Proof{Form: -7, Broken: true, Cut: true})
	named(t, api.Context{}, api.Proof{Labels: placed("", "a b", "\x00")}, "", "a b", "\x00")
	odd := api.Context{Hyps: c.Hyps, Mandatory: []api.Hyp{{Label: "m"}, {}, {Label: "wx"}, {Label: "m"}}, Before: -3}
	named(t, odd, api.Proof{Labels: placed("m")}, "m", "", "wx", "m", "m")
}
