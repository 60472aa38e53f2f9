package deps

import (
	"math"
	"slices"
	"strconv"
	"strings"
	"testing"

	"lemma/api"
	"lemma/base"
	"lemma/proof"
	"lemma/verify"
)

// chapter is the base of the chapter's examples.
const chapter = `$c v $. $v x $. w $f v x $. a1 $a v x $. a2 $a v x $.
t3 $p v x $= w a1 $. t4 $p v x $= ( t3 a2 ) AB $. t5 $p v x $= w t4 ? $. t6 $p v x $= w t5 $.`

// bare is a logic of one string: whatever leaves one entry proves it. Of g, j and d the number of hypotheses is 0, 1, 2; in the scope of its theorems h and i are mandatory, which numbers call A and B.
const bare = `$c w $. g $a w $. ${ e1 $e w $. j $a w $. e2 $e w $. d $a w $. $}
${ h $e w $. i $e w $.
`

// bareTheorem is bare with one theorem, its assertion number 3, and an axiom behind it.
func bareTheorem(words string) string { return bare + "t $p w $= " + words + " $. $} late $a w $." }

// odd are numbers that are below 0 or very great.
var odd = []int{math.MinInt, math.MinInt + 1, -1 << 31, -2, -1, 1 << 31, math.MaxInt}

func loaded(t *testing.T, text string) *base.Base {
	t.Helper()
	b, fault := base.Load(text)
	if fault != nil {
		t.Fatalf("the text is refused: %v", *fault)
	}
	return b
}

// citedIs holds Cited to answer these numbers.
func citedIs(t *testing.T, b *base.Base, n int, want ...int) {
	t.Helper()
	if got, code := Cited(b, n); !slices.Equal(got, want) || code != api.OK {
		t.Errorf("P17.1: Cited(%d): %v, %d, want %v", n, got, code, want)
	}
}

// namedIs holds Named to answer these labels.
func namedIs(t *testing.T, b *base.Base, n int, want ...string) {
	t.Helper()
	if got, code := Named(b, n); !slices.Equal(got, want) || code != api.OK {
		t.Errorf("P17.2: Named(%d): %q, %d, want %q", n, got, code, want)
	}
}

// walkIs holds Walk to tell these numbers.
func walkIs(t *testing.T, b *base.Base, n int, want ...int) {
	t.Helper()
	if got := slices.Collect(Walk(b, n)); !slices.Equal(got, want) {
		t.Errorf("P17.3: Walk(%d): %v, want %v", n, got, want)
	}
}

// axiomsAre holds Axioms to answer these numbers.
func axiomsAre(t *testing.T, b *base.Base, n int, want ...int) {
	t.Helper()
	if got, code := Axioms(b, n); !slices.Equal(got, want) || code != api.OK {
		t.Errorf("P17.4: Axioms(%d): %v, %d, want %v", n, got, code, want)
	}
}

// axiomsRefused holds Axioms to answer an error, and nothing beside it.
func axiomsRefused(t *testing.T, b *base.Base, n int, want api.Errno) {
	t.Helper()
	if got, code := Axioms(b, n); len(got) != 0 || code != want {
		t.Errorf("P17.4: Axioms(%d): %v, %d, want %d", n, got, code, want)
	}
}

// usersAre holds Users to answer these numbers.
func usersAre(t *testing.T, b *base.Base, label string, want ...int) {
	t.Helper()
	if got := Users(b, label); !slices.Equal(got, want) {
		t.Errorf("P17.5: Users(%q): %v, want %v", label, got, want)
	}
}

// unproved holds the calls about a theorem that is not proved; Named is asked elsewhere.
func unproved(t *testing.T, b *base.Base, n int) {
	t.Helper()
	if got, code := Cited(b, n); len(got) != 0 || code != api.ErrUnproved {
		t.Errorf("P17.1: Cited(%d): %v, %d, want ErrUnproved", n, got, code)
	}
	walkIs(t, b, n)
	axiomsRefused(t, b, n, api.ErrUnproved)
}

// noTheorem holds all calls about a number that is no theorem's.
func noTheorem(t *testing.T, b *base.Base, n int) {
	t.Helper()
	if got, code := Cited(b, n); len(got) != 0 || code != api.ErrNone {
		t.Errorf("P17.1: Cited(%d): %v, %d, want ErrNone", n, got, code)
	}
	if got, code := Named(b, n); len(got) != 0 || code != api.ErrNone {
		t.Errorf("P17.2: Named(%d): %q, %d, want ErrNone", n, got, code)
	}
	walkIs(t, b, n)
	axiomsRefused(t, b, n, api.ErrNone)
}

// P17.1 to P17.5: the chapter's examples, row by row.
func TestExamples(t *testing.T) {
	b := loaded(t, chapter)
	citedIs(t, b, 3, 2)
	namedIs(t, b, 3, "t3", "a2")
	walkIs(t, b, 3, 2, 0)
	axiomsAre(t, b, 3, 0)
	unproved(t, b, 4)
	namedIs(t, b, 4, "w", "t4")
	citedIs(t, b, 5, 4)
	walkIs(t, b, 5, 4)
	axiomsRefused(t, b, 5, api.ErrUnproved)
	noTheorem(t, b, 0)
	noTheorem(t, b, 9)
	noTheorem(t, b, -1)
	usersAre(t, b, "a2", 3)
	usersAre(t, b, "w", 2, 4, 5)
	usersAre(t, b, "x")
}

// R12: numbers below 0, of axioms, behind the last assertion, and of a base without a theorem, or with nothing.
func TestNoTheorem(t *testing.T) {
	for _, text := range []string{chapter, bareTheorem("g"), "", "$c w $. a $a w $. b $a w $."} {
		b := loaded(t, text)
		for _, n := range append([]int{b.Count(), b.Count() + 1}, odd...) {
			noTheorem(t, b, n)
		}
		for n := range b.Count() {
			if a, _ := b.At(n); !a.Theorem {
				noTheorem(t, b, n)
			}
		}
	}
}

// P17.1, P17.3, P17.4: theorems that are not proved, whatever their verdict.
func TestUnproved(t *testing.T) {
	for _, words := range []string{
		"", "?", "g ?", "g g", "j", "no", "t", "late", "e1", "x",
		"(", "( g", "( )", "( g ) C C", "( g g ) C", "( h ) A", "( no ) C", "( late ) C", "( t ) A", "( e1 ) C", "( g ) ?", "( g ) CU", "( g ) Z", "( g ) CZZ", "( g ) D", "( j ) C", "( g ) c", "( g ) CZD",
		"g" + strings.Repeat(" j", 4000), "( g j ) C" + strings.Repeat("ZD", 2000), strings.Repeat("g ", 41) + strings.Repeat("d ", 40),
	} {
		b := loaded(t, bareTheorem(words))
		if v, _ := verify.Theorem(b, 3); v.Code == api.OK {
			t.Fatalf("%.60q is proved", words)
		}
		unproved(t, b, 3)
	}
	// Another goal is left than the theorem's.
	unproved(t, loaded(t, "$c w v $. g $a w $. t $p v $= g $."), 1)
	unproved(t, loaded(t, "$c w v $. g $a w $. t $p v $= ( g ) A $."), 1)
}

// P17.1, P17.3, P17.4: what is cited in bare. The numbers of a packed proof are A h, B i, then the words in the brackets, then the saves.
func TestCited(t *testing.T) {
	for words, want := range map[string][]int{
		// A hypothesis alone, mandatory, called or named.
		"h": nil, "i": nil, "( ) A": nil, "( ) B": nil, "( ) AZ": nil,
		// Each once, rising, in whatever order they are called.
		"g": {0}, "g j": {0, 1}, "h j": {1}, "h j j j": {1}, "h i d": {2}, "g g d g d": {0, 2}, "h g d j": {0, 1, 2}, "h h d j h d": {1, 2},
		"( g ) C": {0}, "( d j g ) ABCD": {1, 2}, "( d j g ) EEC": {0, 2}, "( j g ) DC": {0, 1}, "( j g ) DCCC": {0, 1},
		// A label in the brackets that no letter calls is named, not cited.
		"( g j d ) A": nil, "( g j d ) C": {0}, "( g j d ) AD": {1}, "( d g j ) ABC": {2}, "( j ) B": nil,
		// A saved part that is called back, or not, or within another one; a saved hypothesis.
		"( g d ) CZED": {0, 2}, "( g d j ) CZ": {0}, "( g d ) AZED": {2}, "( g d j ) AEZFDZGD": {1, 2}, "( d ) BZDCZEC": {2}, "( j ) AZ": nil,
	} {
		b := loaded(t, bareTheorem(words))
		citedIs(t, b, 3, want...)
		slices.Reverse(want)
		walkIs(t, b, 3, want...)
		slices.Reverse(want)
		axiomsAre(t, b, 3, want...)
	}
}

// P17.2: what is named, proved or not, whatever the labels mean, used or not; each once, in the order in which they first stand, and "?" never.
func TestNamed(t *testing.T) {
	for words, want := range map[string]string{
		"": "", "?": "", "? ?": "", "g": "g", "h": "h", "g g d": "g d", "j g j h g d d": "j g h d",
		"? g": "g", "g ?": "g", "j ? g ? j": "j g", "late t no e1 x T": "late t no e1 x T", "( ? g j ) C": "g j", "( ? ) ?": "",
		"( ) A": "", "( g ) C": "g", "( g j d ) A": "g j d", "( j g j g ) C": "j g", "( d j g ) EEC": "d j g", "( h i ) A": "h i", "( no late t e1 ) C": "no late t e1",
		// What stands behind the bracket are letters, and no labels.
		"( g ) g j": "g", "( ) g": "", "( g ) ) j": "g", "( g ) ( j )": "g",
		// The bracket does not end.
		"(": "", "( g": "g", "( g j g ? C": "g j C", "( (": "(", "( ( g (": "( g", "( ?": "",
		// A bracket in the brackets, or in a plain proof, is a label like others.
		"( ( g ) C": "( g", ")": ")", ") ( g": ") ( g", "g ( j ) C": "g ( j ) C",
		"a-1 .. __ 0 Z AB": "a-1 .. __ 0 Z AB",
	} {
		b := loaded(t, bareTheorem(words))
		namedIs(t, b, 3, strings.Fields(want)...)
		for _, label := range strings.Fields(want) {
			usersAre(t, b, label, 3)
		}
		usersAre(t, b, "?")
	}
}

// P17.5: all that name the label, rising, each once, proved or not; label is any text.
func TestUsers(t *testing.T) {
	b := loaded(t, bare+`t1 $p w $= g $. t2 $p w $= g g g d d $. t3 $p w $= ( j g ) A $. t4 $p w $= ( g $. t5 $p w $= g ? $. t6 $p w $= ( j ) Ag $.
t7 $p w $= no t9 t7 $. t8 $p w $= ( ( ) C $. t9 $p w $= h $. $} late $a w $. t10 $p w $= no j $.`)
	usersAre(t, b, "g", 3, 4, 5, 6, 7)
	usersAre(t, b, "j", 5, 8, 13)
	usersAre(t, b, "d", 4)
	usersAre(t, b, "h", 11)
	usersAre(t, b, "no", 9, 13)
	usersAre(t, b, "t9", 9)
	usersAre(t, b, "t7", 9)
	usersAre(t, b, "(", 10)
	for _, label := range []string{"", "?", ")", " ", "A", "Ag", "G", "g ", " g", "g g", "t1", "late", "w", "e1", "i", "$=", "\x00", "\xff", "é", strings.Repeat("g", 1000)} {
		usersAre(t, b, label)
	}
	for _, text := range []string{"", "$c w $. g $a w $."} {
		usersAre(t, loaded(t, text), "g")
	}
}

// P17.1 to P17.4: a theorem may be proved while one that it cites is not: that one is told, and nothing of what its proof names; so too, if it is cited by one that is cited.
func TestCitesUnproved(t *testing.T) {
	b := loaded(t, `$c w $. g $a w $. k $a w $. open $p w $= k ? $. left $p w $= g k $. on $p w $= open $. past $p w $= ( on left ) A $. up $p w $= ( past g ) A $. two $p w $= ( left ) A $. free $p w $= ( open left k ) C $. by $p w $= free $.`)
	for n, walk := range map[int][]int{4: {2}, 5: {4, 2}, 6: {5, 4, 2}, 7: {3}} {
		if v, _ := verify.Theorem(b, n); v.Code != api.OK {
			t.Fatalf("the theorem %d is not proved: %v", n, v)
		}
		citedIs(t, b, n, walk[0])
		walkIs(t, b, n, walk...)
		axiomsRefused(t, b, n, api.ErrUnproved)
	}
	// One that is named and not cited is nothing to it.
	citedIs(t, b, 8, 1)
	walkIs(t, b, 8, 1)
	axiomsAre(t, b, 8, 1)
	citedIs(t, b, 9, 8)
	walkIs(t, b, 9, 8, 1)
	axiomsAre(t, b, 9, 1)
}

// P17.3, P17.4: an axiom that is cited as well as rested on otherwise is told once; numbers, and not ways to them, give the order.
func TestEachOnce(t *testing.T) {
	b := loaded(t, `$c w $. a $a w $. b $a w $. ${ e $e w $. f $e w $. d $a w $. $} p $p w $= a $. q $p w $= b $. r $p w $= p a d $. s $p w $= a r d q p d d $. u $p w $= q $.`)
	for n, walk := range map[int][]int{3: {0}, 4: {1}, 5: {3, 2, 0}, 6: {5, 4, 3, 2, 1, 0}, 7: {4, 1}} {
		walkIs(t, b, n, walk...)
	}
	citedIs(t, b, 6, 0, 2, 3, 4, 5)
	axiomsAre(t, b, 6, 0, 1, 2)
	axiomsAre(t, b, 5, 0, 2)
	axiomsAre(t, b, 7, 1)
}

// chained is a text of so many theorems, each made of the two ahead of it: ways down to the axiom are more than could ever be gone.
func chained(many int) string {
	text := "$c w $. ${ e $e w $. f $e w $. d $a w $. $} a $a w $. t0 $p w $= a $. t1 $p w $= t0 $. "
	for n := 2; n < many; n++ {
		text += "t" + strconv.Itoa(n) + " $p w $= ( d t" + strconv.Itoa(n-1) + " t" + strconv.Itoa(n-2) + " ) BCA $. "
	}
	return text
}

// P17.3, P17.4: as many theorems as labels, one above the other: each once, falling.
func TestChain(t *testing.T) {
	b := loaded(t, chained(1000))
	last := b.Count() - 1
	want := []int{}
	for n := last - 1; n >= 0; n-- {
		want = append(want, n)
	}
	walkIs(t, b, last, want...)
	axiomsAre(t, b, last, 0, 1)
	citedIs(t, b, last, 0, last-2, last-1)
	usersAre(t, b, "t500", 503, 504)
}

// doubling writes a proof in bare of so many saved steps, each the double of the one ahead of it.
func doubling(many int) string {
	codes := []int{2}
	for n := range many {
		codes = append(codes, api.CodeSave, 5+n, 3)
	}
	text, _ := proof.Packed([]string{"g", "d", "j"}, codes)
	return text
}

// P17.1, P17.2: a derivation too great to be unfolded, and proofs of as many steps as may be: what is cited hangs on the nodes.
func TestGreat(t *testing.T) {
	for words, want := range map[string][]int{
		doubling(10):   {0, 2},
		doubling(1000): {0, 2},
		"( g j d ) C" + strings.Repeat("D", 3999):                                            {0, 1},
		"h" + strings.Repeat(" j", 3999):                                                     {1},
		strings.Repeat("g ", 40) + strings.Repeat("d ", 39) + strings.Repeat("h d j ", 1000): {0, 1, 2},
	} {
		b := loaded(t, bareTheorem(words))
		citedIs(t, b, 3, want...)
		axiomsAre(t, b, 3, want...)
	}
	b := loaded(t, bareTheorem("g"+strings.Repeat(" j ? late", 2000)))
	namedIs(t, b, 3, "g", "j", "late")
	unproved(t, b, 3)
}
