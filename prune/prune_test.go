package prune

import (
	"math"
	"slices"
	"strconv"
	"strings"
	"testing"

	"lemma/api"
	"lemma/base"
	"lemma/verify"
)

// declared is what stands ahead of the assertions of the chapter's example.
const declared = "$c wff ( ) -> $. $v x $. wx $f wff x $. "

// Lines of the chapter's example.
const (
	lineWi = "wi $a wff ( x -> x ) $.\n"
	lineT1 = "t1 $p wff ( ( x -> x ) -> ( x -> x ) ) $= wx wi wi $.\n"
	lineT3 = "t3 $p wff x $= wx $.\n"
)

// chapter is the text of the chapter's example.
const chapter = declared + lineWi + lineT1 + lineT3

// odd are numbers that are below 0 or very great.
var odd = []int{math.MinInt, math.MinInt + 1, -1 << 31, -2, -1, 1 << 31, math.MaxInt - 1, math.MaxInt}

func loaded(t *testing.T, text string) *base.Base {
	t.Helper()
	b, fault := base.Load(text)
	if fault != nil {
		t.Fatalf("the text %.2000q is refused: %v", text, *fault)
	}
	return b
}

// numberOf gives an assertion's number.
func numberOf(t *testing.T, b *base.Base, label string) int {
	t.Helper()
	n, found := b.Find(label)
	if !found {
		t.Fatalf("no assertion: %q", label)
	}
	return n
}

// fallsIs holds Falls to answer these numbers.
func fallsIs(t *testing.T, b *base.Base, n int, want ...int) {
	t.Helper()
	if got, code := Falls(b, n); !slices.Equal(got, want) || code != api.OK {
		t.Errorf("18.1: Falls(%d): %v, %d, want %v", n, got, code, want)
	}
}

// fallWith holds Falls to answer the assertions of these labels, parted by blanks.
func fallWith(t *testing.T, b *base.Base, label, want string) {
	t.Helper()
	numbers, code := Falls(b, numberOf(t, b, label))
	var labels []string
	for _, n := range numbers {
		a, _ := b.At(n)
		labels = append(labels, a.Label)
	}
	if got := strings.Join(labels, " "); got != want || code != api.OK {
		t.Errorf("18.1: with %s falls %q, %d, want %q", label, got, code, want)
	}
}

// withoutIs holds Without to answer this text.
func withoutIs(t *testing.T, b *base.Base, n int, want string) {
	t.Helper()
	if got, code := Without(b, n); got != want || code != api.OK {
		t.Errorf("18.2: Without(%d): %q, %d, want %q", n, got, code, want)
	}
}

// noAssertion holds both calls about a number that is no assertion's.
func noAssertion(t *testing.T, b *base.Base, n int) {
	t.Helper()
	if got, code := Falls(b, n); len(got) != 0 || code != api.ErrNone {
		t.Errorf("R12: Falls(%d): %v, %d, want ErrNone", n, got, code)
	}
	if got, code := Without(b, n); got != "" || code != api.ErrNone {
		t.Errorf("R12: Without(%d): %q, %d, want ErrNone", n, got, code)
	}
}

// 18.1, 18.2: the chapter's examples.
func TestExamples(t *testing.T) {
	b := loaded(t, chapter)
	fallsIs(t, b, 0, 0, 1)
	fallsIs(t, b, 1, 1)
	fallsIs(t, b, 2, 2)
	noAssertion(t, b, 3)
	noAssertion(t, b, -1)
	withoutIs(t, b, 0, "$c wff ( ) -> $. $v x $. wx $f wff x $. \n\nt3 $p wff x $= wx $.\n")
	withoutIs(t, b, 1, declared+lineWi+"\n"+lineT3)
	withoutIs(t, b, 2, declared+lineWi+lineT1+"\n")
	if !strings.HasSuffix(declared+lineWi+lineT1+"\n", "wi $.\n\n") {
		t.Error("18.2: the chapter says how Without(2) ends")
	}
}

// 18.1: the chapter's example of a theorem that names one behind it: it goes, though its verdict was ErrLater.
func TestExampleAhead(t *testing.T) {
	b := loaded(t, declared+lineWi+lineT1+"t2 $p wff x $= t3 $.\n"+lineT3)
	if v, _ := verify.Theorem(b, 2); v.Code != api.ErrLater {
		t.Fatalf("t2: %v", v)
	}
	fallsIs(t, b, 3, 2, 3)
	fallsIs(t, b, 2, 2)
	fallsIs(t, b, 0, 0, 1)
	withoutIs(t, b, 3, declared+lineWi+lineT1+"\n\n")
}

// R12: numbers below 0 and behind the last assertion, of bases of all sorts, of one without an assertion too.
func TestNoAssertion(t *testing.T) {
	for _, text := range []string{"", " \n", "$( $)", "$c w $. ${ h $e w $. $}", "$c w $. a $a w $.", "$c w $. h $e w $. t $p w $= h $.", chapter} {
		b := loaded(t, text)
		for _, n := range append([]int{b.Count(), b.Count() + 1}, odd...) {
			noAssertion(t, b, n)
		}
	}
}

// 18.1, 18.2: a base of one assertion: all that stands about it stays.
func TestOneAssertion(t *testing.T) {
	for _, text := range []string{"a $a w $.", "t $p w $= ? $.", "t $p w $= t $.", "t $p w $= ( t t ) A $.", "t $p w $= $."} {
		b := loaded(t, "$c w $. "+text)
		fallsIs(t, b, 0, 0)
		withoutIs(t, b, 0, "$c w $. ")
		b = loaded(t, "$c w $.\n${ h $e w $. "+text+"\t$}\n$c v $.")
		fallsIs(t, b, 0, 0)
		withoutIs(t, b, 0, "$c w $.\n${ h $e w $. \t$}\n$c v $.")
	}
}

// 18.1: what words of a proof name, of a theorem t that stands between the axioms g, j and k and the assertions behind: with each of these labels t goes, and with no other.
func TestNames(t *testing.T) {
	const ahead = "$c w g $. g $a w $. ${ e1 $e w $. j $a w $. e2 $e w $. k $a w $. $} A $a w $. ${ h $e w $. h2 $e w $. t $p w $= "
	const behind = " $. $} later $a w $. last $p w $= ( ) ? $."
	all := []string{"g", "j", "k", "A", "later", "last"}
	for words, want := range map[string]string{
		"": "", "?": "", "h": "", "h ?": "", "h no": "", "e1 e2": "", "w": "", "t": "",
		// Plain, proved or not.
		"g": "g", "h j": "j", "g g k": "g k", "g j j j": "g j", "g ?": "g", "? k": "k", "no g": "g", "g g g j no k": "g j k", "g g": "g", "k": "k",
		"later": "later", "g last ?": "g last", "t g": "g", "A": "A", "G": "", "gg": "", "g-": "", "j.k": "",
		// In the brackets, called or not; the letters name nothing.
		"( ) A": "", "( g ) A": "g", "( g ) C": "g", "( g j k ) A": "g j k", "( k j g ) E": "g j k", "( later ) A": "later", "( last no g ) C": "g last",
		"( g g ) C": "g", "( h g ) C": "g", "( A ) A": "A", "( ) AZ": "", "( j ) A": "j", "( ? ) A": "", "( t ) C": "",
		// What stands behind the brackets are no labels, whatever they look like.
		"( ) g": "", "( ) g j": "", "( j ) g k": "j", "( ) ( g )": "", "( ) ) g": "", "( g ) ( j": "g", "( ) last": "",
		// Letters that are none, that break off, and numbers that mean nothing.
		"( g ) a": "g", "( g ) CU": "g", "( g ) ZZ": "g", "( k ) D": "k", "( j ) ?": "j", "( g j": "g j",
		// A bracket that does not end: all words behind it are labels.
		"(": "", "( g": "g", "( A": "A", "( ( k": "k", "( no ? later": "later", "( g ? A j": "g j A",
		// A proof that does not begin with the bracket is plain.
		") g": "g", "h ( g ) j": "g j", "? ( ) k": "k", "g ) A": "g A",
	} {
		b := loaded(t, ahead+words+behind)
		for _, label := range all {
			with := []string{label}
			if slices.Contains(strings.Fields(want), label) {
				with = append(with, "t")
			}
			if i := slices.Index([]string{"later", "last"}, label); i >= 0 {
				slices.Reverse(with) // t stands ahead of these
			}
			fallWith(t, b, label, strings.Join(with, " "))
		}
		fallWith(t, b, "t", "t")
	}
}

// 18.1: a name in a goal, in a hypothesis or in a declaration is a symbol's, and nobody goes by it; hypotheses' labels are no assertions'.
func TestSymbolsNameNothing(t *testing.T) {
	b := loaded(t, "$c w a h $. $v t $. ft $f w t $. a $a w a t $. ${ h $e w a t $. t $p w a h t $= h $. u $p w a t $= ft h ? $. $} v $p w a t $= ft a $.")
	fallWith(t, b, "a", "a v")
	fallWith(t, b, "t", "t")
	fallWith(t, b, "u", "u")
	fallWith(t, b, "v", "v")
}

// 18.1: whoever names one that goes goes as well, one by one, and those that name one that names one do.
func TestChain(t *testing.T) {
	b := loaded(t, "$c w $. a $a w $. b $a w $. t1 $p w $= a $. t2 $p w $= ( t1 b ) A $. t3 $p w $= t2 ? $. t4 $p w $= b $. t5 $p w $= ( t4 t3 $. t6 $p w $= t4 $. t7 $p w $= ( ) A $.")
	fallWith(t, b, "a", "a t1 t2 t3 t5")
	fallWith(t, b, "b", "b t2 t3 t4 t5 t6")
	fallWith(t, b, "t1", "t1 t2 t3 t5")
	fallWith(t, b, "t2", "t2 t3 t5")
	fallWith(t, b, "t3", "t3 t5")
	fallWith(t, b, "t4", "t4 t5 t6")
	for _, label := range []string{"t5", "t6", "t7"} {
		fallWith(t, b, label, label)
	}
}

// 18.1: theorems that name one behind them go with it, and those that name these, on whichever side they stand.
func TestAhead(t *testing.T) {
	b := loaded(t, "$c w $. t1 $p w $= t3 $. t2 $p w $= ( t1 ) A $. free $p w $= free2 $. t3 $p w $= a $. free2 $p w $= ? $. a $a w $. t4 $p w $= t2 $. t5 $p w $= later $. later $a w $.")
	fallWith(t, b, "a", "t1 t2 t3 a t4")
	fallWith(t, b, "t3", "t1 t2 t3 t4")
	fallWith(t, b, "t1", "t1 t2 t4")
	fallWith(t, b, "t2", "t2 t4")
	fallWith(t, b, "t4", "t4")
	fallWith(t, b, "free2", "free free2")
	fallWith(t, b, "free", "free")
	fallWith(t, b, "later", "t5 later")
}

// 18.1: a theorem that names itself, and theorems that name one another, go once.
func TestCircles(t *testing.T) {
	b := loaded(t, "$c w $. self $p w $= self self $. user $p w $= ( self ) A $. c1 $p w $= c3 $. c2 $p w $= ( c1 c1 $. c3 $p w $= ( c2 self ) A $. to $p w $= c2 $. none $p w $= none $.")
	fallWith(t, b, "self", "self user c1 c2 c3 to")
	fallWith(t, b, "user", "user")
	for _, label := range []string{"c1", "c2", "c3"} {
		fallWith(t, b, label, "c1 c2 c3 to")
	}
	fallWith(t, b, "to", "to")
	fallWith(t, b, "none", "none")
}

// 18.1: whether a theorem is proved, and what it cites, is nothing to it: what its text names is.
func TestNamedNotCited(t *testing.T) {
	b := loaded(t, "$c w $. a $a w $. b $a w $. listed $p w $= ( a b ) B $. plain $p w $= b $. open $p w $= a ? $. by $p w $= open $.")
	for n, want := range []api.Errno{api.OK, api.OK, api.ErrMissing, api.OK} {
		if v, _ := verify.Theorem(b, 2+n); v.Code != want {
			t.Fatalf("%v, want %d", v, want)
		}
	}
	fallWith(t, b, "a", "a listed open by")
	fallWith(t, b, "b", "b listed plain")
}

// row writes theorems t0 to that of the number many, less 1; each names those that names gives.
func row(many int, names func(n int) []int) string {
	var text strings.Builder
	text.WriteString("$c w $. a $a w $.\n")
	for n := range many {
		text.WriteString("t" + strconv.Itoa(n) + " $p w $= (")
		for _, k := range names(n) {
			text.WriteString(" t" + strconv.Itoa(k))
		}
		text.WriteString(" ) A $.\n")
	}
	return text.String()
}

// from gives the numbers from the first on, so many.
func from(first, many int) []int {
	var l []int
	for n := range many {
		l = append(l, first+n)
	}
	return l
}

// 18.1: as many theorems as a text holds, one above the other, one below the other, in a circle, and each above all ahead of it.
func TestLong(t *testing.T) {
	const many = api.MaxLabels - 1
	below := loaded(t, row(many, func(n int) []int { return from(n-1, min(n, 1)) }))
	above := loaded(t, row(many, func(n int) []int { return from(n+1, min(many-1-n, 1)) }))
	circle := loaded(t, row(many, func(n int) []int { return []int{(n + many - 1) % many} }))
	for _, k := range []int{0, 1, 500, many - 2, many - 1} {
		fallsIs(t, below, 1+k, from(1+k, many-k)...)
		fallsIs(t, above, 1+k, from(1, k+1)...)
		fallsIs(t, circle, 1+k, from(1, many)...)
		if text, _ := Without(circle, 1+k); text != "$c w $. a $a w $.\n"+strings.Repeat("\n", many) {
			t.Errorf("18.2: %.200q", text)
		}
	}
	const most = 150 // within MaxTokens
	full := loaded(t, row(most, func(n int) []int { return from(0, n) }))
	for n := range most {
		fallsIs(t, full, 1+n, from(1+n, most-n)...)
	}
	fallsIs(t, full, 0, 0)
}
