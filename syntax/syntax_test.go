package syntax

import (
	"strings"
	"testing"

	"lemma/api"
	"lemma/base"
	"lemma/verify"
)

// begin is the chapter's base, and one rule more behind it.
const begin = `$c wff ( ) -> $. $v x y z $. wx $f wff x $. wy $f wff y $. wz $f wff z $. wi $a wff ( x -> y ) $. ws $a wff x y $. w0 $a wff $. `

func loaded(t *testing.T, text string) *base.Base {
	t.Helper()
	b, fault := base.Load(text)
	if fault != nil {
		t.Fatalf("Load of %q: %+v", text[max(0, len(text)-200):], fault)
	}
	return b
}

// read gives the expression of some words; a word that is no symbol is a number that the base does not know.
func read(b *base.Base, words string) api.Expr {
	var e api.Expr
	for _, word := range strings.Fields(words) {
		n, known := b.Number(word)
		if !known {
			n = -1000 - len(word)
		}
		e = append(e, n)
	}
	return e
}

// at gives the scope of the base's last assertion, where the assertions below a number may be used.
func at(t *testing.T, b *base.Base, before int) api.Context {
	t.Helper()
	c, code := b.Behind(b.Count()-1, nil)
	if code != api.OK {
		t.Fatalf("Behind: %d", code)
	}
	c.Before = before
	return c
}

// An answer is what the three calls say of one expression.
type answer struct {
	proof string
	ways  int
}

// none is what is said of an expression without a derivation.
var none = answer{"", 0}

// says asks all three calls, and holds what they say to agree: 21.4 and 21.5.
func says(t *testing.T, b *base.Base, c api.Context, e api.Expr) answer {
	t.Helper()
	labels, no := Prove(b, c, e)
	size, noSize := Least(b, c, e)
	ways, noWays := Ways(b, c, e)
	shown := b.Print(e)
	switch {
	case noWays != api.OK || ways < 0 || ways > api.MaxMatches+1:
		t.Errorf("21.3: Ways(%s): %d, %d", shown, ways, noWays)
	case no != noSize || no != api.OK && no != api.ErrParse || no != api.OK && (labels != nil || size != 0):
		t.Errorf("21.1, 21.2: of %s: Prove %v, %d, Least %d, %d", shown, labels, no, size, noSize)
	case size != len(labels):
		t.Errorf("21.1: of %s: Prove %v, Least %d", shown, labels, size)
	case (ways > 0) != (no == api.OK):
		t.Errorf("21.5: of %s: Least %d, %d, Ways %d", shown, size, noSize, ways)
	}
	if no == api.OK {
		accepted(t, b, c, e, labels)
	}
	return answer{strings.Join(labels, " "), ways}
}

// accepted holds labels to be a plain proof of an expression, but that it may be too deep: 21.4.
func accepted(t *testing.T, b *base.Base, c api.Context, e api.Expr, labels []string) {
	t.Helper()
	c.Goal = e
	v := verify.Text(b, c, verify.Words(labels), api.Token{Text: "$."})
	if v.Code != api.OK && v.Code != api.ErrDeep {
		t.Errorf("21.4: of %s: %v: %+v", b.Print(e), labels, v)
	}
}

// sayIs asks for one answer.
func sayIs(t *testing.T, b *base.Base, c api.Context, words string, want answer) {
	t.Helper()
	if got := says(t, b, c, read(b, words)); got != want {
		t.Errorf("21.1 to 21.3: of %q, Before %d: %+v, want %+v", words, c.Before, got, want)
	}
}

// The chapter's examples.
func TestExamples(t *testing.T) {
	b := loaded(t, begin)
	for _, x := range []struct {
		before int
		words  string
		want   answer
	}{
		{1, "wff ( x -> ( y -> x ) )", answer{"wx wy wx wi wi", 1}},
		{1, "wff x", answer{"wx", 1}},
		{1, "wff ( x -> )", none},
		{1, "wff", none},
		{2, "wff x y z", answer{"wx wy wz ws ws", 2}},
		{2, "wff x y", answer{"wx wy ws", 1}},
		{2, "", none},
		{3, "wff", answer{"w0", 257}},
		{3, "wff x", answer{"wx", 257}},
	} {
		sayIs(t, b, at(t, b, x.before), x.words, x.want)
	}
	// The other derivation of x y z is one too.
	accepted(t, b, at(t, b, 2), read(b, "wff x y z"), strings.Fields("wx wy ws wz ws"))
}

// More of the chapter's base.
func TestBegin(t *testing.T) {
	b := loaded(t, begin)
	for _, x := range []struct {
		before int
		words  string
		want   answer
	}{
		{2, "wff x y z x", answer{"wx wy wz wx ws ws ws", 5}},
		{2, "wff ( x y -> z )", answer{"wx wy ws wz wi", 1}},
		{2, "wff ( x -> y ) z", answer{"wx wy wi wz ws", 1}},
		{2, "wff x ( y -> z z ) x", answer{"wx wy wz wz ws wi wx ws ws", 2}},
		{2, "wff ( -> )", none},
		{3, "wff ( -> )", answer{"w0 w0 wi", 257}},
		{3, "wff ( x -> )", answer{"wx w0 wi", 257}},
		{3, "wff ( ->", none},
		{3, "wff -> )", none},
		{3, "wff wff", none},
		{3, "( x", none},
		{3, "x", none},
		{3, "x x", none},
		{3, "->", none},
		{0, "wff x", answer{"wx", 1}},
		{0, "wff ( x -> y )", none},
		{0, "wff y z", none},
	} {
		sayIs(t, b, at(t, b, x.before), x.words, x.want)
	}
}

// Hard places: what is a rule and what is none, and in what order its parts come.
func TestRules(t *testing.T) {
	const wff = "$c wff ( ) $. $v x y $. wx $f wff x $. wy $f wff y $. "
	for _, x := range []struct {
		name, text, words string
		want              answer
	}{
		{"parts by the hypotheses", "$c wff -> $. $v x y $. wy $f wff y $. wx $f wff x $. wi $a wff x -> y $.", "wff x -> y", answer{"wy wx wi", 1}},
		{"parts by the hypotheses", "$c t u $. $v c a b $. ha $f t a $. hb $f u b $. hc $f t c $. r $a t b c a $.", "t b a c", answer{"hc hb ha r", 1}},
		{"cut by the goal", "$c t $. $v b a $. ha $f t a $. hb $f t b $. r $a t b a $.", "t a b a", answer{"ha hb r ha r", 2}},
		{"a variable twice", wff + "ww $a wff x x $. wn $a wff ( x $.", "wff x x", none},
		{"a variable twice", wff + "ww $a wff ( x y x $. wn $a wff ) x $.", "wff ( x y x", none},
		{"a variable twice, a way beside it", wff + "ww $a wff x x $. ws $a wff x y $.", "wff x x", answer{"wx wx ws", 1}},
		{"a pair", wff + "${ $d x y $. wd $a wff x y $. $} wn $a wff ) $.", "wff x y", none},
		{"a pair of others", wff + "${ $v z $. $d x z $. wd $a wff x y $. $} wn $a wff ) $.", "wff x y", answer{"wx wy wd", 1}},
		{"an essential hypothesis", wff + "${ e $e wff x $. a $a wff ( x $. $} wn $a wff ) $.", "wff ( x", none},
		{"an essential hypothesis without variables", wff + "${ e $e wff ) $. a $a wff ( x $. $} wn $a wff ) $.", "wff ( x", none},
		{"the first rule", wff + "a $a wff ( x $. b $a wff ( x $.", "wff ( x", answer{"wx a", 2}},
		{"the fewest labels, not the first rule", wff + "a $a wff ( x $. b $a wff ( ( x $.", "wff ( ( x", answer{"wx b", 2}},
		{"a leaf ahead of a rule", wff + "a $a wff ( $. ${ e $e wff ( $. wn $a wff ) $. $}", "wff (", answer{"e", 2}},
		{"a rule without parts", wff + "a $a wff ( ) $. b $a wff ( ) $.", "wff ( )", answer{"a", 2}},
		{"a theorem, not proved", wff + "p $p wff ( x $= ? $. wn $a wff ) $.", "wff ( x", answer{"wx p", 1}},
		{"a theorem, proved", wff + "a $a wff ( x $. p $p wff ( ( x $= wx a a $. q $a wff ) $.", "wff ( ( x", answer{"wx p", 2}},
		{"a type that no leaf has", "$c t u ( $. $v x $. ${ $v y $. hy $f u y $. a $a t ( y $. $} hx $f t x $. wn $a t x $.", "t ( x", none},
		{"a type between", "$c t u ( $. $v x $. ${ $v y $. hy $f u y $. a $a t ( y $. $} hx $f t x $. b $a u ( x $. wn $a t $.", "t ( ( x", answer{"hx b a", 1}},
		{"a string with a type in it", "$c t $. $v x y $. hx $f t x $. hy $f t y $. r $a t t x $.", "t t t x", answer{"hx r r", 1}},
		{"a constant for a variable", wff + "a $a wff ( $. b $a wff ) x $.", "wff ) (", answer{"a b", 1}},
	} {
		b := loaded(t, x.text)
		if got := says(t, b, at(t, b, b.Count()), read(b, x.words)); got != x.want {
			t.Errorf("21.1 to 21.3: %s: of %q: %+v, want %+v", x.name, x.words, got, x.want)
		}
	}
}

// Hard places: rules that go round, and empty strings.
func TestRound(t *testing.T) {
	const types = "$c t u v ( $. $v a b c d $. ha $f t a $. hb $f u b $. hc $f v c $. hd $f t d $. "
	for _, x := range []struct {
		name, text, words string
		want              answer
	}{
		{"one type of another", types + "r $a u a $.", "u a", answer{"ha r", 1}},
		{"not the other way", types + "r $a u a $.", "t b", none},
		{"itself", types + "r $a t a $.", "t a", answer{"ha", 257}},
		{"itself, without a derivation", types + "r $a t a $.", "t b", none},
		{"round by two", types + "r $a u a $. s $a t b $.", "t a", answer{"ha", 257}},
		{"round by two", types + "r $a u a $. s $a t b $.", "u a", answer{"ha r", 257}},
		{"round by three", types + "r $a u a $. s $a v b $. q $a t c $.", "v a", answer{"ha r s", 257}},
		{"beside the round", types + "r $a u a $. s $a t b $.", "v c", answer{"hc", 1}},
		{"above the round", types + "r $a u a $. s $a t b $. q $a v ( a $.", "v ( d", answer{"hd q", 257}},
		{"below the round", types + "r $a v c $. q $a v a $. s $a t ( a $.", "t ( a", answer{"ha s", 1}},
		{"below the round", types + "r $a v c $. q $a v a $. s $a t ( a $.", "v ( a", answer{"ha s q", 257}},
		{"round with an empty string", types + "n $a u $. r $a t a b $.", "t d", answer{"hd", 257}},
		{"round with an empty string that has ways", types + "n $a u $. m $a u $. r $a t c b $.", "t c", answer{"n hc r", 2}},
		{"no round without an empty string", types + "r $a t a b $.", "t d", answer{"hd", 1}},
		{"no round without an empty string", types + "r $a t a b $.", "t a b b", answer{"ha hb r hb r", 1}},
		{"an empty string by a row of rules", types + "r $a t b $. s $a u c $. n $a v $.", "t", answer{"n s r", 1}},
		{"an empty string of two", types + "r $a t b c $. s $a u c $. n $a v $.", "t", answer{"n s n r", 1}},
		{"two empty strings", types + "r $a t b c $. n $a u $. m $a v $. p $a v $.", "t", answer{"n m r", 2}},
		{"an empty string that goes round", types + "r $a t b $. s $a u a $. n $a t $.", "u", answer{"n s", 257}},
		{"an empty string that goes round for ever alone", types + "r $a t b $. s $a u a $.", "u", none},
		{"an endless empty string that is not asked for", types + "r $a t b $. s $a u a $. n $a t $.", "v c", answer{"hc", 1}},
		{"an endless empty string in a rule", types + "r $a t b $. s $a u a $. n $a t $. q $a v ( a $.", "v (", answer{"n q", 257}},
		{"an endless empty string, a way beside it", types + "r $a t b $. s $a u a $. n $a t $. q $a v ( a $. o $a v ( $.", "v (", answer{"o", 257}},
		{"a way that goes nowhere", types + "r $a t b c $. s $a u a $.", "u a", answer{"ha s", 1}},
		{"the shorter of two ways round", types + "q $a v b $. r $a u a $. s $a v a $.", "v a", answer{"ha s", 2}},
		{"the first of two ways round", types + "q $a v a $. r $a u a $. s $a v a $.", "v a", answer{"ha q", 2}},
		{"two ways up, one through the other", types + "q $a v a $. r $a v b $. s $a u a $.", "v d", answer{"hd q", 2}},
		{"three ways up, through one another", types + "$c w $. $v e $. he $f w e $. q $a w c $. r $a w b $. p $a w a $. s $a v b $. o $a v a $. n $a u a $.", "w d", answer{"hd p", 4}},
		{"one empty string at two places", types + "n $a u $. q $a v b a $. r $a v a b $.", "v d", answer{"hd n q", 2}},
		{"empty strings before and behind", "$c t u $. $v a b c $. ha $f t a $. hb $f u b $. hc $f u c $. n $a u $. r $a u b a c $.", "u a", answer{"ha n n r", 1}},
	} {
		b := loaded(t, x.text)
		if got := says(t, b, at(t, b, b.Count()), read(b, x.words)); got != x.want {
			t.Errorf("21.1 to 21.3: %s: of %q: %+v, want %+v", x.name, x.words, got, x.want)
		}
	}
}

// The order: each sentence of it, of two derivations of one size.
func TestOrder(t *testing.T) {
	const types = "$c t u ( ) $. $v a b c d $. ha $f t a $. hb $f t b $. hc $f u c $. hd $f u d $. "
	for _, x := range []struct {
		name, text, words string
		want              answer
	}{
		{"leaves by the context", types + "${ e $e t ( $. f $e t ( $. n $a u $. $}", "t (", answer{"e", 2}},
		{"leaves, then rules", types + "r $a t ( $. s $a t ( $. ${ e $e t ( $. n $a u $. $}", "t (", answer{"e", 3}},
		{"rules by number", types + "z $a t ( a $. r $a t ( b $.", "t ( b", answer{"hb z", 2}},
		{"a rule by number, not its strings", types + "o $a u $. p $a t ( $. q $a u ( $. r $a t a ( d $. s $a t a d $.", "t a (", answer{"ha o r", 257}},
		{"the shorter string first", types + "r $a t a b $.", "t a a a a", answer{"ha ha ha ha r r r", 5}},
		{"the shorter string at the goal's first variable", "$c t $. $v a b $. ha $f t a $. hb $f t b $. r $a t b a $.", "t a a a a", answer{"ha ha r ha r ha r", 5}},
		{"the shorter string at the second", "$c t u $. $v a b c $. ha $f t a $. hb $f t b $. hc $f t c $. s $a t a b $. r $a u a b c $.", "u a a a a", answer{"ha ha ha ha s r", 3}},
		{"parts by the order too", types + "r $a t a b $. s $a u a $. q $a u a $.", "u a a", answer{"ha ha r s", 2}},
	} {
		b := loaded(t, x.text)
		if got := says(t, b, at(t, b, b.Count()), read(b, x.words)); got != x.want {
			t.Errorf("21.2: %s: of %q: %+v, want %+v", x.name, x.words, got, x.want)
		}
	}
}

// Types beside one another, and variables bound, as in texts of logic.
func TestTypes(t *testing.T) {
	b := loaded(t, begin+"$c set = A. $. $v s r $. vs $f set s $. vr $f set r $. cs $a wff s = r $. ca $a wff A. s x $. a1 $a wff ( x -> ( y -> x ) ) $.")
	c := at(t, b, b.Count())
	sayIs(t, b, c, "wff ( s = r -> ( A. s r = r -> x ) )", answer{"vs vr cs vr vr cs vs ca wx wi wi", 257})
	sayIs(t, b, c, "wff A. s A. r s = r", answer{"vs vr cs vr ca vs ca", 257})
	sayIs(t, b, c, "wff A. s s", none)
	sayIs(t, b, c, "set s", answer{"vs", 1})
	sayIs(t, b, c, "set", none)
	sayIs(t, b, c, "set x", none)
}
