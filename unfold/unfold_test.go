package unfold

import (
	"math"
	"slices"
	"strings"
	"testing"

	"lemma/api"
	"lemma/base"
	"lemma/proof"
	"lemma/verify"
)

// chapter is the base of the chapter's examples, with both forms of t4.
const chapter = `$c wff ( ) -> $. $v x $. wx $f wff x $. wi $a wff ( x -> x ) $.
t1 $p wff ( ( x -> x ) -> ( x -> x ) ) $= wx wi wi $.
t2 $p wff ( ( x -> x ) -> ( x -> x ) ) $= ( wi ) A B Z B $.
t3 $p wff x $= ? $.
t4 $p wff ( x -> x ) $= ( wi ) A Z C B $.
t5 $p wff ( x -> x ) $= ( wi ) A Z B $.`

// bare is a logic of one string: whatever leaves one entry proves it. Of g, j, d and c the number of hypotheses is 0, 1, 2, 3; in the scope of its theorems h and i are mandatory, which numbers call A and B.
const bare = `$c w $. g $a w $. ${ e1 $e w $. j $a w $. e2 $e w $. d $a w $. e3 $e w $. c $a w $. $}
${ h $e w $. i $e w $.
`

// bareTheorem is bare with one theorem, the last assertion.
func bareTheorem(words string) string { return bare + "t $p w $= " + words + " $. $}" }

func loaded(t *testing.T, text string) *base.Base {
	t.Helper()
	b, fault := base.Load(text)
	if fault != nil {
		t.Fatalf("the text is refused: %v", *fault)
	}
	return b
}

// numberOf gives an assertion's number.
func numberOf(t *testing.T, b *base.Base, label string) int {
	t.Helper()
	n, found := b.Find(label)
	if !found {
		t.Fatalf("no assertion: %q", label)
	}
	return n
}

// unfoldsTo holds all three calls to answer these labels.
func unfoldsTo(t *testing.T, b *base.Base, n int, want []string) {
	t.Helper()
	count, code := Count(b, n)
	if count != len(want) || code != api.OK {
		t.Errorf("15.1: Count(%d): %d, %d, want %d", n, count, code, len(want))
	}
	plain, code := Plain(b, n)
	if !slices.Equal(plain, want) || code != api.OK {
		t.Errorf("15.2: Plain(%d): %.200q, %d, want %.200q", n, plain, code, want)
	}
	text, code := Text(b, n)
	if written, _ := proof.Plain(want); text != written || code != api.OK {
		t.Errorf("15.3: Text(%d): %.200q, %d, want %.200q", n, text, code, written)
	}
}

// refuses holds all three calls to answer an error, and nothing beside it.
func refuses(t *testing.T, b *base.Base, n int, want api.Errno) {
	t.Helper()
	if count, code := Count(b, n); count != 0 || code != want {
		t.Errorf("R12: Count(%d): %d, %d, want %d", n, count, code, want)
	}
	if plain, code := Plain(b, n); len(plain) != 0 || code != want {
		t.Errorf("R12: Plain(%d): %.200q, %d, want %d", n, plain, code, want)
	}
	if text, code := Text(b, n); text != "" || code != want {
		t.Errorf("R12: Text(%d): %.200q, %d, want %d", n, text, code, want)
	}
}

// tooLong holds a theorem to be proved, and to be more than MaxUnfold labels.
func tooLong(t *testing.T, b *base.Base, n int) {
	t.Helper()
	if v, code := verify.Theorem(b, n); v.Code != api.OK || code != api.OK {
		t.Errorf("P0.3: the theorem %d: %v, %d", n, v, code)
	}
	if count, code := Count(b, n); count != 2001 || code != api.OK {
		t.Errorf("15.1: Count(%d): %d, %d, want 2001", n, count, code)
	}
	if plain, code := Plain(b, n); len(plain) != 0 || code != api.ErrUnfold {
		t.Errorf("15.2: Plain(%d): %d labels, %d", n, len(plain), code)
	}
	if text, code := Text(b, n); text != "" || code != api.ErrUnfold {
		t.Errorf("15.3: Text(%d): %d bytes, %d", n, len(text), code)
	}
}

// 15.1 to 15.3: the chapter's examples.
func TestExamples(t *testing.T) {
	b := loaded(t, chapter)
	refuses(t, b, 0, api.ErrNone)
	unfoldsTo(t, b, 1, []string{"wx", "wi", "wi"})
	unfoldsTo(t, b, 2, []string{"wx", "wi", "wi"})
	refuses(t, b, 3, api.ErrUnproved)
	refuses(t, b, 4, api.ErrUnproved)
	unfoldsTo(t, b, 5, []string{"wx", "wi"})
	refuses(t, b, 6, api.ErrNone)
	refuses(t, b, -1, api.ErrNone)
	if text, _ := Text(b, 1); text != "wx wi wi" {
		t.Errorf("15.3: Text(1): %q", text)
	}
}

// R12: numbers below 0, of axioms, behind the last assertion, and of a base without a theorem, or with nothing.
func TestNoTheorem(t *testing.T) {
	for _, text := range []string{chapter, bareTheorem("g"), "", "$c w $. a $a w $. b $a w $."} {
		b := loaded(t, text)
		for _, n := range []int{math.MinInt, math.MinInt + 1, -1 << 31, -2, -1, b.Count(), b.Count() + 1, 1 << 31, math.MaxInt} {
			refuses(t, b, n, api.ErrNone)
		}
		for n := range b.Count() {
			if a, _ := b.At(n); !a.Theorem {
				refuses(t, b, n, api.ErrNone)
			}
		}
	}
}

// R12: theorems that are not proved, whatever their verdict.
func TestUnproved(t *testing.T) {
	for _, words := range []string{
		"", "?", "g ?", "g g", "j", "no", "t", "late", "e1", "x", "hx",
		"(", "( g", "( )", "( g ) C C", "( g g ) C", "( h ) A", "( no ) C", "( late ) C", "( e1 ) C", "( g ) ?", "( g ) CU", "( g ) Z", "( g ) CZZ", "( g ) D", "( j ) C", "( g ) c", "( g ) CZD",
		"g" + strings.Repeat(" j", 4000), "( g j ) C" + strings.Repeat("ZD", 2000), strings.Repeat("g ", 41) + strings.Repeat("d ", 40), "( g d ) CZ" + strings.Repeat("E", 40) + strings.Repeat("D", 40),
	} {
		b := loaded(t, bareTheorem(words)+" late $a w $.")
		n := numberOf(t, b, "t")
		if v, _ := verify.Theorem(b, n); v.Code == api.OK {
			t.Fatalf("%.60q is proved", words)
		}
		refuses(t, b, n, api.ErrUnproved)
	}
	// Another goal is left than the theorem's.
	refuses(t, loaded(t, "$c w v $. g $a w $. t $p v $= g $."), 1, api.ErrUnproved)
	refuses(t, loaded(t, "$c w v $. g $a w $. t $p v $= ( g ) A $."), 1, api.ErrUnproved)
}

// R12: ErrUnproved comes ahead of ErrUnfold, where the labels would be too many.
func TestUnprovedAheadOfUnfold(t *testing.T) {
	for _, tail := range []string{" A", " ?", " U", " Z Z", " no"} {
		b := loaded(t, bareTheorem(doubling(40)+tail))
		refuses(t, b, numberOf(t, b, "t"), api.ErrUnproved)
	}
	for _, tail := range []string{" g", " ?", " d", " no"} {
		b := loaded(t, bareTheorem(strings.Join(chain(2500), " ")+tail))
		refuses(t, b, numberOf(t, b, "t"), api.ErrUnproved)
	}
}

// A theorem that cites one which is not proved may be proved: that is unfolded; and what is cited is a label, whatever its own proof is.
func TestCites(t *testing.T) {
	b := loaded(t, "$c w $. open $p w $= ? $. by $p w $= open $. again $p w $= ( by ) A $.")
	refuses(t, b, 0, api.ErrUnproved)
	unfoldsTo(t, b, 1, []string{"open"})
	unfoldsTo(t, b, 2, []string{"by"})
}

// packedTo holds the last theorem of bare, with this proof, to unfold to these labels.
func packedTo(t *testing.T, words, want string) {
	t.Helper()
	b := loaded(t, bareTheorem(words))
	unfoldsTo(t, b, numberOf(t, b, "t"), strings.Fields(want))
}

// 15.1, 15.2: the chapter's hard places about saved steps. The numbers are A h, B i, then the words in the brackets, then the saves.
func TestSavedSteps(t *testing.T) {
	// Never called back: it counts once, wherever it stands.
	packedTo(t, "( g j ) CZDZDZ", "g j j")
	packedTo(t, "( g d ) CZCZDZ", "g g d")
	// Called back, once and often; several saved; called back in another order.
	packedTo(t, "( g d ) CZED", "g g d")
	packedTo(t, "( g j c ) CDZFFE", "g j g j g j c")
	packedTo(t, "( g j d ) CZDZGEFE", "g j g j d g d")
	packedTo(t, "( j c d ) ACZBZGFDE", "h j i i h j c d")
	// Within another saved step: each time that one is called back.
	packedTo(t, "( g d ) CZEDZFD", "g g d g g d d")
	packedTo(t, "( g d j ) CEZFDZGDZHEFDD", "g j g j d g j g j d d g j g j d g j g j d d j g j d d")
	// A back reference that is saved in its turn.
	packedTo(t, "( g j d ) CDZFZEGE", "g j g j d g j d")
	packedTo(t, "( g c ) CZEZFD", "g g g c")
	// A hypothesis saved and called back is one label.
	packedTo(t, "( c ) AZDDC", "h h h c")
	packedTo(t, "( d ) BZDCZEC", "i i d i i d d")
	packedTo(t, "( d ) AZDZECC", "h h h d d")
	// Hypotheses and labels in the brackets that no number means leave nothing.
	packedTo(t, "( g j d c ) A", "h")
	packedTo(t, "( g j d c ) CD", "g j")
	// Letters in any words.
	packedTo(t, "( g d ) C Z E D Z\nF D", "g g d g g d d")
}

// A hypothesis that is active and not mandatory may be a leaf; numbers above 20 have more letters than one.
func TestLeaves(t *testing.T) {
	const text = `$c w p $. $v x y $. wx $f w x $. wy $f w y $. px $a p x $. ${ hp $e p x $. hq $e p x $. drop $a p $. $}
in $p p $= ( wy px drop ) ABZDDC $. out $p p $= wy wy px wy px drop $.`
	b := loaded(t, text)
	want := strings.Fields("wy wy px wy px drop")
	n := numberOf(t, b, "out")
	unfoldsTo(t, b, n, want)
	refuses(t, b, n-1, api.ErrUnproved)
	b = loaded(t, strings.Replace(text, "ABZDDC", "AABZDC", 1))
	unfoldsTo(t, b, n-1, want)

	axioms, labels := "", []string{}
	for i := range 30 {
		label := "a" + strings.Repeat("x", i)
		axioms += label + " $a w $. "
		labels = append(labels, label)
	}
	// T is the axiom number 19, UA the number 20, UJ the number 29, UK the label d, UL the saved step.
	b = loaded(t, "$c w $. "+axioms+"${ e $e w $. f $e w $. d $a w $. $} t $p w $= ( "+strings.Join(labels, " ")+" d ) TUAUKZUJUKULUK $.")
	part := []string{labels[19], labels[20], "d"}
	unfoldsTo(t, b, b.Count()-1, slices.Concat(part, []string{labels[29], "d"}, part, []string{"d"}))
}

// doubling writes a proof in bare of so many saved steps, each the double of the one ahead of it.
func doubling(many int) string {
	codes := []int{2}
	for n := range many {
		codes = append(codes, api.CodeSave, 4+n, 3)
	}
	text, _ := proof.Packed([]string{"g", "d"}, codes)
	return text
}

// 15.1: saved steps that double, far beyond what any number of the machine can count, at once.
func TestDoubling(t *testing.T) {
	for _, many := range []int{10, 11, 30, 31, 32, 33, 39, 40, 41, 61, 62, 63, 64, 65, 127, 128, 129, 500, 1333} {
		b := loaded(t, bareTheorem(doubling(many)))
		tooLong(t, b, numberOf(t, b, "t"))
	}
	for many, want := range []int{1, 3, 7, 15, 31, 63, 127, 255, 511, 1023} {
		b := loaded(t, bareTheorem(doubling(many)))
		n := numberOf(t, b, "t")
		if count, code := Count(b, n); count != want || code != api.OK {
			t.Errorf("15.1: %d doublings: %d, %d, want %d", many, count, code, want)
		}
		holds(t, b, n)
	}
}

// A part beyond all numbers that stands aside, saved and not called back, or called back beside little ones.
func TestGreatParts(t *testing.T) {
	great := doubling(100)
	for _, tail := range []string{"Z", "CD", "CCDD", "Z" + letters(104) + "D"} {
		b := loaded(t, bareTheorem(great+tail))
		tooLong(t, b, numberOf(t, b, "t"))
	}
}

// letters writes a number.
func letters(n int) string {
	text, _ := proof.Packed(nil, []int{n})
	return strings.Fields(text)[2]
}

// 15.4: the unfolded run may be deeper than MaxStack; the theorem keeps its verdict, and is unfolded.
func TestDeep(t *testing.T) {
	for side, want := range map[int]api.Errno{20: api.OK, 21: api.ErrDeep, 25: api.ErrDeep, 40: api.ErrDeep} {
		// An assertion with so many hypotheses takes as many of its own results: the last one begins on a stack of all the others.
		hyps := ""
		for i := range side {
			hyps += "e" + letters(i) + " $e w $. "
		}
		words := "( g m ) " + strings.Repeat("A", side) + "BZ" + strings.Repeat("C", side-1) + "B"
		b := loaded(t, "$c w $. g $a w $. ${ "+hyps+"m $a w $. $} t $p w $= "+words+" $.")
		part := append(slices.Repeat([]string{"g"}, side), "m")
		labels := append(slices.Repeat(part, side), "m")
		unfoldsTo(t, b, 2, labels)
		c, _ := b.Context(2)
		if v := verify.Text(b, c, verify.Words(labels), api.Token{}); v.Code != want {
			t.Errorf("15.4: %d hypotheses: %v", side, v)
		}
		if v, _ := verify.Theorem(b, 2); v.Code != api.OK || v.Peak != side {
			t.Errorf("15.4: %d hypotheses, packed: %v", side, v)
		}
		holds(t, b, 2)
	}
}

// 15.3: the text has lines, as the chapter on proofs writes them.
func TestLines(t *testing.T) {
	b := loaded(t, bareTheorem(doubling(5)))
	text, code := Text(b, numberOf(t, b, "t"))
	lines := strings.Split(text, "\n")
	if code != api.OK || len(lines) != 2 || len(lines[0]) != 71 || len(strings.Fields(text)) != 63 {
		t.Errorf("15.3: 63 labels: %q, %d", text, code)
	}
	long := strings.Repeat("x", 32)
	b = loaded(t, "$c w $. "+long+" $a w $. ${ e $e w $. y $a w $. z"+long[1:]+" $a w $. $} t $p w $= "+long+" z"+long[1:]+" y y y y z"+long[1:]+" $.")
	want := long + " z" + long[1:] + " y y y\ny z" + long[1:]
	if text, code := Text(b, 3); text != want || code != api.OK {
		t.Errorf("15.3: %q, %d, want %q", text, code, want)
	}
}
