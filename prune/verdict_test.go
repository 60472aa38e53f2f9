package prune

import (
	"strings"
	"testing"

	"lemma/api"
	"lemma/verify"
)

// rules is what the theorems of these tests rest on; gone is what is taken away, and falls goes with it.
const rules = `$c wff |- ( -> ) $. $v x y $. wx $f wff x $. wy $f wff y $.
gone $a |- ( x -> x ) $.
wi $a wff ( x -> y ) $. ax $a |- x $. dd $a wff x x $. id $a wff x $. ${ $d x y $. dp $a wff ( x y ) $. $}
${ min $e |- x $. maj $e |- ( x -> y ) $. mp $a |- y $. $}
falls $p |- ( y -> y ) $= wy gone $. ahead $p |- x $= ( falls
) A $.
`

// 18.4: every verdict stays with the theorem that stays, its count and its peak too; the token is the same word at another place.
func TestVerdicts(t *testing.T) {
	for _, try := range []struct {
		words string
		code  api.Errno
		at    string
		count int
		peak  int
	}{
		{"wx wy wi", api.OK, "", 1, 2},
		{"( wi mp ) ABC", api.OK, "", 1, 2},
		{"( wi ) AZBCZ", api.OK, "", 1, 2},
		{"( wi ) AZBZCZ", api.OK, "", 1, 2},
		{"wx no", api.ErrUnknown, "no", 0, 1},
		{"wx wy wi late", api.ErrLater, "late", 1, 2},
		{"t", api.ErrLater, "t", 0, 0},
		{"wx min", api.ErrHidden, "min", 0, 1},
		{"wx wi", api.ErrUnder, "wi", 0, 1},
		{"wx ax wy wi", api.ErrKind, "wi", 1, 2},
		{"wx wy wx ax wx ax mp", api.ErrHyp, "mp", 2, 4},
		{"wx wy dp", api.ErrApart, "dp", 0, 2},
		{"wx dd dd dd dd dd dd dd dd", api.ErrTooLong, "dd", 7, 1},
		{strings.Repeat("wx ", 41), api.ErrDeep, "wx", 0, 40},
		{"wx wy", api.ErrLeft, "$.", 0, 2},
		{"wy", api.ErrGoal, "$.", 0, 1},
		{"wx ?", api.ErrMissing, "?", 0, 1},
		{"wx" + strings.Repeat(" id", 4000), api.ErrSteps, "id", 3999, 1},
		{"( wi", api.ErrList, "$.", 0, 0},
		{"( wi wx ) ABC", api.ErrList, "wx", 0, 0},
		{"( wi late ) ABC", api.ErrLater, "late", 0, 0},
		{"( wi ) A b", api.ErrLetters, "b", 0, 1},
		{"( wi ) A ZZ", api.ErrSave, "ZZ", 0, 1},
		{"( wi ) A B D", api.ErrNumber, "D", 0, 2},
		{"( wi ) ABCU", api.ErrCut, "$.", 1, 2},
	} {
		b := loaded(t, rules+"t $p wff ( x -> y ) $=\n "+try.words+" $. late $a wff x $.")
		left := staysHold(t, b, numberOf(t, b, "gone"))
		fallWith(t, b, "gone", "gone falls ahead")
		is, _ := verify.Theorem(left, numberOf(t, left, "t"))
		at := is.At.At
		is.At.At = api.Pos{}
		if want := (api.Verdict{Label: "t", Code: try.code, At: api.Token{Text: try.at}, Count: try.count, Peak: try.peak}); is != want {
			t.Errorf("18.4: of %.60q: %v, want %v", try.words, is, want)
		}
		if was, _ := verify.Theorem(b, numberOf(t, b, "t")); try.code != api.OK && at.Off >= was.At.At.Off {
			t.Errorf("18.4: of %.60q the verdict is at %v and was at %v", try.words, at, was.At.At)
		}
	}
}

// 18.4: what is proved and names nothing that goes stays proved, also what names one that is not proved, or one that is out of a scope.
func TestStaysProved(t *testing.T) {
	b := loaded(t, "$c w $. a $a w $. b $a w $. ${ h $e w $. c $a w $. in $p w $= h c $. $} open $p w $= ? a $. by $p w $= b c in $. on $p w $= ( by ) A $. past $p w $= open $. lone $p w $= c $.")
	left := staysHold(t, b, 0)
	fallWith(t, b, "a", "a open past")
	for label, want := range map[string]api.Errno{"in": api.OK, "by": api.OK, "on": api.OK, "lone": api.ErrUnder} {
		if v, _ := verify.Theorem(left, numberOf(t, left, label)); v.Code != want {
			t.Errorf("18.4: %s: %v, want %d", label, v, want)
		}
	}
	left = staysHold(t, b, numberOf(t, b, "open"))
	if _, found := left.Find("past"); found || left.Count() != b.Count()-2 {
		t.Errorf("18.1: with open falls past alone, and %d of %d stay", left.Count(), b.Count())
	}
}
