package tree

import (
	"math"
	"slices"
	"strconv"
	"strings"
	"testing"

	"lemma/api"
)

// P13.1: each error of a plain run, at the beginning and behind other steps; what is behind it does not mend it.
func TestPlainErrors(t *testing.T) {
	b := loaded(t, many)
	c := contextOf(t, b, "t")
	inside := contextOf(t, b, "in")
	long := "none" + strings.Repeat(" dd", 6)
	for words, code := range map[string]api.Errno{
		"": api.ErrLeft, "wx wy": api.ErrLeft, "wx wy wz": api.ErrLeft, "wx wy wi wz": api.ErrLeft,
		"?": api.ErrMissing, "wx ? wi": api.ErrMissing, "wx wy wi ?": api.ErrMissing,
		"no": api.ErrUnknown, "wx wy wi no": api.ErrUnknown, "wff": api.ErrUnknown, "x": api.ErrUnknown, "WX": api.ErrUnknown,
		"min": api.ErrHidden, "wx hx wi": api.ErrHidden,
		"t": api.ErrLater, "late": api.ErrLater, "wx late": api.ErrLater,
		"wi": api.ErrUnder, "wx wi": api.ErrUnder, "wi wx wy": api.ErrUnder, "wx wy wi wi": api.ErrUnder,
		"wx wy dp": api.ErrApart, "wx wx dp": api.ErrApart, "none wx dp wx dp": api.ErrApart,
		long + " dd": api.ErrTooLong,
	} {
		ofIs(t, b, c, parsed(words), "")
		if got := judged(b, c, parsed(words)); got != code {
			t.Errorf("%q: the run says %d, want %d", words, got, code)
		}
	}
	for words, code := range map[string]api.Errno{"wx hx wi": api.ErrKind, "hx": api.ErrGoal, "hx dd": api.ErrKind, "wx wy hx hx mp": api.ErrHyp, "wx wy wx hx mp": api.ErrHyp, "min": api.ErrHidden, "in": api.ErrLater} {
		want := ""
		if code == api.ErrGoal {
			want = words
		}
		ofIs(t, b, inside, parsed(words), want)
		if got := judged(b, inside, parsed(words)); got != code {
			t.Errorf("%q: the run says %d, want %d", words, got, code)
		}
	}
	ofIs(t, b, c, parsed(long), "none; dd 0; dd 1; dd 2; dd 3; dd 4; dd 5")
	ofIs(t, b, c, parsed("wx wy wi"), "wx; wy; wi 0 1")
	ofIs(t, b, c, parsed("none none dp"), "none; none; dp 0 1")
	ofIs(t, b, c, parsed("wy wz wi wx wi"), "wy; wz; wi 0 1; wx; wi 2 3")
	ofIs(t, b, inside, parsed("wx wx wi wx dd wi"), "wx; wx; wi 0 1; wx; dd 3; wi 2 4")
}

// P13.1: each error of a packed run, those of the brackets too; the context's goal is not looked at.
func TestPackedErrors(t *testing.T) {
	b := loaded(t, many)
	c := contextOf(t, b, "t")
	for words, code := range map[string]api.Errno{
		"( no ) A": api.ErrUnknown, "( ? ) A": api.ErrUnknown, "( wi no ) ABC": api.ErrUnknown,
		"( min ) A": api.ErrHidden, "( wi hx ) ABC": api.ErrHidden,
		"( t ) A": api.ErrLater, "( wi late ) ABC": api.ErrLater,
		"( wx ) A": api.ErrList, "( wi wy ) ABC": api.ErrList, "( wi wi ) ABC": api.ErrList, "( wz wi wz ) ABD": api.ErrList, "(": api.ErrList, "( wi": api.ErrList, "( wi ABC": api.ErrUnknown,
		"( wi ) ABCa": api.ErrLetters, "( wi ) a": api.ErrLetters, "( wi ) ABU?C": api.ErrLetters,
		"( wi ) ?": api.ErrMissing, "( wi ) ABC?": api.ErrMissing,
		"( wi ) Z": api.ErrSave, "( wi ) ZABC": api.ErrSave, "( wi ) AZZBC": api.ErrSave, "( wi ) ABCZZ": api.ErrSave, "( wi ) AZDZZC": api.ErrSave,
		"( wi ) D": api.ErrNumber, "( wi ) AZEC": api.ErrNumber, "( wi ) ABCUUUUA": api.ErrNumber, "( wi ) ABCD": api.ErrNumber,
		"( wi ) C": api.ErrUnder, "( wi ) AC": api.ErrUnder, "( wi ) ABCC": api.ErrUnder,
		"( dp ) ABC": api.ErrApart, "( dp ) AZDC": api.ErrApart,
		"( none dd ) CDDDDDDD": api.ErrTooLong,
		"( wi ) ABCU":          api.ErrCut, "( wi ) U": api.ErrCut,
		"( )": api.ErrLeft, "( wi )": api.ErrLeft, "( wi ) AB": api.ErrLeft, "( wi ) ABCA": api.ErrLeft, "( wi ) ABCZD": api.ErrLeft,
	} {
		ofIs(t, b, c, parsed(words), "")
		if got := judged(b, c, parsed(words)); got != code {
			t.Errorf("%q: the run says %d, want %d", words, got, code)
		}
	}
	inside := contextOf(t, b, "in") // A wx, B wy, C hx
	for words, code := range map[string]api.Errno{"( wi ) ACD": api.ErrKind, "( wi ) CZED": api.ErrKind, "( mp ) ABCCD": api.ErrHyp, "( mp ) ABACD": api.ErrHyp, "( hx ) A": api.ErrList} {
		ofIs(t, b, inside, parsed(words), "")
		if got := judged(b, inside, parsed(words)); got != code {
			t.Errorf("%q: the run says %d, want %d", words, got, code)
		}
	}
	ofIs(t, b, inside, parsed("( ) C"), "hx")
	ofIs(t, b, inside, parsed("( wz dd ) DEE"), "wz; dd 0; dd 1")
}

// P13.1: saves and back references: of a mandatory hypothesis, a label, an assertion, and of a back reference; of none a node is made.
func TestSaves(t *testing.T) {
	b := loaded(t, many)
	c := contextOf(t, b, "t")
	// A wx, B wy, C wi, D wz, E the first saved.
	for codes, want := range map[string]string{
		"ABC":          "wx; wy; wi 0 1",
		"ABCZ":         "wx; wy; wi 0 1",
		"AZBC":         "wx; wy; wi 0 1",
		"AZBZCZ":       "wx; wy; wi 0 1",
		"AZEC":         "wx; wi 0 0",
		"AZEZC":        "wx; wi 0 0",
		"AZEZFC":       "",
		"AZEZFCC":      "wx; wi 0 0; wi 0 1",
		"DZEZFZGCCC":   "wz; wi 0 0; wi 0 1; wi 0 2",
		"DZEC":         "wz; wi 0 0",
		"DDC":          "wz; wz; wi 0 1",
		"ABCZEC":       "wx; wy; wi 0 1; wi 2 2",
		"ABCZEZCZ":     "wx; wy; wi 0 1; wi 2 2",
		"AZBZCZEFCCZ":  "wx; wy; wi 0 1; wi 0 1; wi 2 3",
		"AZBZCEZFCC":   "wx; wy; wi 0 1; wi 0 1; wi 2 3",
		"AZBZCZGCZHCF": "",
		"AZBCZBCEFCC":  "wx; wy; wi 0 1; wy; wi 2 3; wi 0 2; wi 4 5",
		"ABZECAC":      "",
		"ABZECACC":     "wx; wy; wi 1 1; wx; wi 2 3; wi 0 4",
	} {
		ofIs(t, b, c, parsed("( wi wz ) "+codes), want)
	}
	// Words of letters are parted anywhere.
	ofIs(t, b, c, parsed("( wi wz ) A Z E Z F C C"), "wx; wi 0 0; wi 0 1")
}

// P13.1: what was saved stays the node that made it, though the entry is gone.
func TestSavedStays(t *testing.T) {
	b := loaded(t, chapter)
	c := contextOf(t, b, "t")
	// A w, B ax, C mp, D the first saved.
	ofIs(t, b, c, parsed("( ax mp ) ABZBZBDEC"), "w; ax 0; ax 1; ax 2; mp 3 1 2")
	ofIs(t, b, c, parsed("( ax mp ) ABZDDCZEDCDDC"), "w; ax 0; mp 1 1 1; mp 2 2 1; mp 3 1 1")
	ofIs(t, b, c, parsed("( ax mp ) ABZDDCZEDC"), "w; ax 0; mp 1 1 1; mp 2 2 1")
}

// P13.1: more than MaxStack entries: one after the other, and all taken by one assertion.
func TestDeep(t *testing.T) {
	b := loaded(t, chapter)
	c := contextOf(t, b, "t")
	for _, pairs := range []int{19, 20, 30, 500} {
		words := strings.Repeat("w w ", pairs) + "w" + strings.Repeat(" mp", pairs)
		l, code := Of(b, c, parsed(words))
		if code != api.OK || len(l) != 3*pairs+1 || Size(l) != min(3*pairs+1, 2001) || Depth(l) != pairs+1 {
			t.Errorf("P13.1: %d entries: %d nodes, %d", 2*pairs+1, len(l), code)
		}
		wantRun := api.OK
		if 2*pairs+1 > api.MaxStack {
			wantRun = api.ErrDeep
		}
		if got := judged(b, c, parsed(words)); got != wantRun {
			t.Errorf("P13.1: the run of %d entries: %d", 2*pairs+1, got)
		}
	}
	ofIs(t, b, c, parsed(strings.Repeat("w ", 60)+"ax"), "")
	ofIs(t, b, c, parsed("( ax ) AZ"+strings.Repeat("C", 60)+"B"), "")
}

// P13.1, P13.2: an assertion with more hypotheses than a stack may have entries: 60 and 100 of them, plain and packed.
func TestManyHypotheses(t *testing.T) {
	for _, many := range []int{40, 41, 60, 100} {
		var hyps, plain, kids strings.Builder
		for i := range many {
			hyps.WriteString("e" + strconv.Itoa(i) + " $e p x $. ")
			plain.WriteString(" px")
			kids.WriteString(" 1")
		}
		b := loaded(t, "$c w p $. $v x $. wx $f w x $. ${ h $e p x $. t0 $a p x $. $} ${ "+hyps.String()+"big $a p x x $. $} ${ px $e p x $. t $p p x x $= ? $. $}")
		c := contextOf(t, b, "t")
		l, code := Of(b, c, parsed("wx"+plain.String()+" big"))
		if code != api.OK || len(l) != many+2 || len(l[many+1].Kids) != many+1 {
			t.Errorf("P13.1: %d hypotheses: %d nodes, %d", many, len(l), code)
		}
		proved, code := Conclude(b, c, l)
		if code != api.OK || !slices.Equal(proved[len(l)-1], c.Goal) {
			t.Errorf("P13.2: %d hypotheses: %d", many, code)
		}
		// A wx, B px, C big, D the saved px.
		ofIs(t, b, c, parsed("( big ) ABZ"+strings.Repeat("D", many-1)+"C"), "wx; px; big 0"+kids.String())
		ofIs(t, b, c, parsed("wx"+plain.String()[3:]+" big"), "")
		ofIs(t, b, c, parsed("wx"+plain.String()+" px big"), "")
		ofIs(t, b, c, parsed("wx"+plain.String()[3:]+" wx big"), "")
	}
}

// P13.1: more than MaxProof steps, plain and packed, saves counted or not; a fault behind them is found.
func TestManySteps(t *testing.T) {
	b := loaded(t, "$c a $. x $a a $. ${ h $e a $. y $a a $. $} t $p a $= ? $.")
	c := contextOf(t, b, "t")
	for _, steps := range []int{3999, 4000, 4001, 9000} {
		wantRun := api.OK
		if steps > api.MaxProof {
			wantRun = api.ErrSteps
		}
		plain := "x" + strings.Repeat(" y", steps-1)
		packed := "( y x ) B" + strings.Repeat("A", steps-1)
		for _, words := range []string{plain, packed} {
			l, code := Of(b, c, parsed(words))
			if code != api.OK || len(l) != steps || l[0].Label != "x" || l[steps-1].Label != "y" || !slices.Equal(l[steps-1].Kids, []int{steps - 2}) || Depth(l) != steps {
				t.Errorf("P13.1: %d steps: %d nodes, %d", steps, len(l), code)
			}
			if got := judged(b, c, parsed(words)); got != wantRun {
				t.Errorf("P13.1: the run of %d steps: %d", steps, got)
			}
		}
		for _, more := range []string{" x", " ?", " no"} {
			ofIs(t, b, c, parsed(plain+more), "")
		}
		for _, more := range []string{"B", "?", "a", "ZZ", "C", "U"} {
			ofIs(t, b, c, parsed(packed+more), "")
		}
	}
	l, code := Of(b, c, parsed("( y x ) B"+strings.Repeat("ZA", 4000)+"Z"))
	if code != api.OK || len(l) != 4001 {
		t.Errorf("P13.1: 4001 saves: %d nodes, %d", len(l), code)
	}
}

// P13.1: a form that is not the packed one is plain, by the labels alone: whatever the codes, Broken and Cut are.
func TestOtherForms(t *testing.T) {
	b := loaded(t, chapter)
	c := contextOf(t, b, "t")
	for _, form := range []int{0, api.FormPlain, 3, -1, math.MinInt, math.MaxInt} {
		for _, broken := range []bool{false, true} {
			for _, codes := range [][]api.Code{nil, coded(0), coded(api.CodeBad), coded(api.CodeSave, 77)} {
				p := api.Proof{Form: form, Labels: tokens("w", "w", "ax", "w", "mp"), Codes: codes, Broken: broken, Cut: broken}
				ofIs(t, b, c, p, "w; w; ax 1; w; mp 0 2 3")
				p.Labels = tokens("w", "w")
				ofIs(t, b, c, p, "")
				p.Labels = nil
				ofIs(t, b, c, p, "")
			}
		}
	}
}

// P13.1: Broken and Cut, of packed proofs that are sound but for that.
func TestBrokenAndCut(t *testing.T) {
	b := loaded(t, chapter)
	c := contextOf(t, b, "t")
	for _, x := range []struct {
		broken, cut bool
		want        string
	}{{false, false, "w; ax 0"}, {true, false, ""}, {false, true, ""}, {true, true, ""}} {
		ofIs(t, b, c, api.Proof{Form: api.FormPacked, Labels: tokens("ax"), Codes: coded(0, 1), Broken: x.broken, Cut: x.cut}, x.want)
	}
}

// P13.1: codes that letters never make; numbers at the ends of what ints are.
func TestOddCodes(t *testing.T) {
	b := loaded(t, chapter)
	c := contextOf(t, b, "t")
	for _, n := range []int{2, 3, 1 << 40, math.MaxInt, math.MaxInt - 1, api.CodeOpen, api.CodeBad, -4, math.MinInt, math.MinInt + 1} {
		for _, codes := range [][]int{{n}, {0, n}, {n, 0}, {0, 1, n}} {
			ofIs(t, b, c, api.Proof{Form: api.FormPacked, Labels: tokens("ax"), Codes: coded(codes...)}, "")
		}
		if n != 2 {
			ofIs(t, b, c, api.Proof{Form: api.FormPacked, Labels: tokens("ax"), Codes: coded(0, api.CodeSave, n, 1)}, "")
		}
	}
	nothing := api.Context{}
	for _, n := range []int{0, -1, math.MinInt, math.MaxInt} {
		ofIs(t, b, nothing, api.Proof{Form: api.FormPacked, Codes: coded(n)}, "")
	}
}

// P13.1: the context's goal is not looked at, whatever it is.
func TestGoalIsNotLookedAt(t *testing.T) {
	b := loaded(t, chapter)
	c := contextOf(t, b, "t")
	for _, goal := range []api.Expr{nil, {}, {0}, {-5, 99}, slices.Repeat([]int{1}, 300), c.Goal} {
		c.Goal = goal
		ofIs(t, b, c, parsed("w w ax w mp"), "w; w; ax 1; w; mp 0 2 3")
		ofIs(t, b, c, parsed("( ax ) ABB"), "w; ax 0; ax 1")
		concluded(t, b, c, nodes("wy; ax 0"), "w y, w y")
	}
}
