package pack

import (
	"math"
	"slices"
	"strconv"
	"strings"
	"testing"

	"lemma/api"
	"lemma/proof"
)

// P12.1: the mandatory hypotheses may be any: a number lays what stands there, whatever Hyps has under the label.
func TestMandatoryIsTaken(t *testing.T) {
	b := loaded(t, many)
	c := contextOf(t, b, "t")
	c.Mandatory = []api.Hyp{{Label: "new", Var: -1, Expr: c.Goal}, {Label: "wx", Expr: []int{7, 7}}, {Label: "new"}, {Label: "wi", Expr: slices.Repeat([]int{-9}, 300)}}
	runs(t, b, c, "( ) A", api.OK, 0, 0, 1)
	runs(t, b, c, "( ) AZ", api.OK, 0, 0, 1)
	runs(t, b, c, "( ) B", api.ErrGoal, -1, 0, 1)
	runs(t, b, c, "( ) ABCDZE", api.ErrLeft, -1, 0, 5)
	runs(t, b, c, "( ) E", api.ErrNumber, 2, 0, 0)
	runs(t, b, c, "( dd ) CE", api.ErrKind, 3, 0, 1)
	runs(t, b, c, "( dd ) BE", api.ErrKind, 3, 0, 1)
	goals := map[string]api.Expr{"A": c.Goal, "B": {7, 7}, "C": nil, "D": slices.Repeat([]int{-9}, 300)}
	for codes, goal := range goals {
		c.Goal = goal
		runs(t, b, c, "( wy none ) "+codes, api.OK, 0, 0, 1)
		runs(t, b, c, "( wy none ) "+codes+"Z", api.OK, 0, 0, 1)
		runs(t, b, c, "( wy none ) "+codes+"ZG", api.ErrLeft, -1, 0, 2)
	}
}

// P12.1: at a word in the brackets the step's error comes ahead of its being a mandatory hypothesis.
func TestMandatoryThatIsNoStep(t *testing.T) {
	b := loaded(t, many)
	c := contextOf(t, b, "t")
	for label, code := range map[string]api.Errno{"new": api.ErrUnknown, "min": api.ErrHidden, "late": api.ErrLater, "t": api.ErrLater, "wi": api.ErrList, "wz": api.ErrList, "none": api.ErrList} {
		c.Mandatory = []api.Hyp{{Label: "wx", Expr: c.Goal}, {Label: label, Expr: c.Goal}}
		runs(t, b, c, "( dd "+label+" ) A", code, 2, 0, 0)
		runs(t, b, c, "( "+label, code, 1, 0, 0)
		runs(t, b, c, "( dd ) B", api.OK, 0, 0, 1)
	}
	c.Mandatory = nil
	runs(t, b, c, "( wx wy wi ) ABC", api.OK, 0, 1, 2)
	runs(t, b, c, "( wx wy wi wx ) ABC", api.ErrList, 4, 0, 0)
	runs(t, b, c, "( wi ) A", api.ErrUnder, 3, 0, 0)
}

// P12.1: a context's hypotheses come ahead of assertions, and of two of one label the first counts.
func TestHypothesesFirst(t *testing.T) {
	b := loaded(t, many)
	c := contextOf(t, b, "t")
	c.Mandatory = nil
	c.Hyps = slices.Concat([]api.Hyp{{Label: "wi", Expr: c.Goal}, {Label: "late", Expr: []int{1}}, {Label: "two", Expr: c.Goal}, {Label: "min"}, {Label: "?"}, {Label: ""}}, c.Hyps, []api.Hyp{{Label: "two", Expr: []int{5}}})
	runs(t, b, c, "( wi ) A", api.OK, 0, 0, 1)
	runs(t, b, c, "( two ) A", api.OK, 0, 0, 1)
	runs(t, b, c, "( late two ) AB", api.ErrLeft, -1, 0, 2)
	runs(t, b, c, "( min ? two ) C", api.OK, 0, 0, 1)
	runs(t, b, c, "( two two ) A", api.ErrList, 2, 0, 0)
	runs(t, b, c, "( ? late min ? ) C", api.ErrList, 4, 0, 0)
	p := api.Proof{Form: api.FormPacked, Labels: placed("", "wi"), Codes: coded(1), End: behind}
	if v := Run(b, c, p); v != (api.Verdict{Peak: 1}) {
		t.Errorf("P12.1: a label without a letter: %v", v)
	}
	p.Labels = placed("wi", "", "two", "")
	if v := Run(b, c, p); v != (api.Verdict{Code: api.ErrList, At: p.Labels[3]}) {
		t.Errorf("P12.1: a label without a letter twice: %v", v)
	}
}

// P12.1: Before may be any number, pairs either way round.
func TestBeforeAndPairs(t *testing.T) {
	b := loaded(t, many)
	c := contextOf(t, b, "t")
	n, _ := b.Find("dp")
	for before, code := range map[int]api.Errno{math.MinInt: api.ErrLater, -1: api.ErrLater, 0: api.ErrLater, n: api.ErrLater, n + 1: api.ErrGoal, 1000: api.ErrGoal, math.MaxInt: api.ErrGoal} {
		c.Before = before
		x, _ := b.Number("x")
		y, _ := b.Number("y")
		for _, pairs := range [][]api.Pair{{{A: x, B: y}}, {{A: y, B: x}}, {{A: x, B: x}, {A: 99, B: -1}, {A: y, B: x}, {A: y, B: x}}} {
			c.Pairs = pairs
			if code == api.ErrLater {
				runs(t, b, c, "( dp ) ABC", code, 1, 0, 0)
				continue
			}
			runs(t, b, c, "( dp ) ABC", code, -1, 1, 2)
			runs(t, b, c, "( dp ) BZAC", code, -1, 1, 2)
			runs(t, b, c, "( dp ) BZDC", api.ErrApart, 3, 0, 2)
		}
		c.Pairs = []api.Pair{{A: x, B: x}, {A: y, B: y}}
		if code == api.ErrGoal {
			runs(t, b, c, "( dp ) ABC", api.ErrApart, 3, 0, 2)
		}
	}
	runs(t, b, api.Context{}, "( none ) A", api.ErrLater, 1, 0, 0)
	runs(t, b, api.Context{}, "( wx ) A", api.ErrHidden, 1, 0, 0)
	runs(t, b, api.Context{}, "( ) A", api.ErrNumber, 2, 0, 0)
	runs(t, b, api.Context{}, "( )", api.ErrLeft, -1, 0, 0)
}

// P12.1: however many words stand in the brackets, each is looked at, and has its number.
func TestLongBrackets(t *testing.T) {
	b := loaded(t, many)
	c := contextOf(t, b, "t")
	var words []string
	for i := range api.MaxProof + 500 {
		words = append(words, "h"+strconv.Itoa(i))
		c.Hyps = append(c.Hyps, api.Hyp{Label: words[i], Expr: []int{i}})
	}
	p := api.Proof{Form: api.FormPacked, Labels: placed(words...), End: behind}
	for _, i := range []int{0, 1, 3999, 4000, 4499} {
		p.Codes = coded(len(c.Mandatory) + i)
		c.Goal = []int{i}
		if v := Run(b, c, p); v != (api.Verdict{Peak: 1}) {
			t.Errorf("P12.1: the word number %d in the brackets: %v", i, v)
		}
	}
	p.Codes = coded(len(c.Mandatory) + 4500)
	if v := Run(b, c, p); v != (api.Verdict{Code: api.ErrNumber, At: p.Codes[0].At}) {
		t.Errorf("P12.1: the number behind long brackets: %v", v)
	}
	for last, code := range map[string]api.Errno{"h0": api.ErrList, "h4499": api.ErrList, "no": api.ErrUnknown, "t": api.ErrLater, "min": api.ErrHidden, "wx": api.ErrList} {
		runs(t, b, c, "( "+strings.Join(words, " ")+" "+last+" ) Z", code, len(words)+1, 0, 0)
	}
}

// P12.1: codes and labels may be at any tokens: they are told as they stand, and say nothing.
func TestTokensAsTheyStand(t *testing.T) {
	b := loaded(t, chapter)
	c := contextOf(t, b, "t")
	odd := []api.Token{{}, {Text: "Z"}, {Text: "\xff\x00", At: api.Pos{Off: -1, Line: -2, Col: math.MinInt}}}
	for _, at := range odd {
		p := api.Proof{Form: api.FormPacked, Labels: placed("a1"), End: behind}
		p.Codes = []api.Code{{N: 0, At: at}, {N: 0, At: at}, {N: 1, At: at}}
		if v := Run(b, c, p); v != (api.Verdict{Count: 1, Peak: 2}) {
			t.Errorf("P12.1: all codes at %v: %v", at, v)
		}
		p.Codes = append(p.Codes, api.Code{N: 9, At: at})
		if v := Run(b, c, p); v != (api.Verdict{Code: api.ErrNumber, At: at, Count: 1, Peak: 2}) {
			t.Errorf("P12.1: a code at %v: %v", at, v)
		}
		p.End = at
		p.Codes = p.Codes[:2]
		if v := Run(b, c, p); v != (api.Verdict{Code: api.ErrLeft, At: at, Peak: 2}) {
			t.Errorf("P12.1: the end at %v: %v", at, v)
		}
	}
	bracket := api.Token{Text: "nix", At: api.Pos{Off: -8}}
	p := api.Proof{Form: api.FormPacked, Labels: []api.Token{{Text: "a1"}, bracket}, Broken: true, End: behind}
	if v := Run(b, c, p); v != (api.Verdict{Code: api.ErrUnknown, At: bracket}) {
		t.Errorf("P12.1: a word in the brackets at an odd place: %v", v)
	}
}

// P12.1: letters may be parted into words anywhere: the same verdict, at the word in which the code ends.
func TestPartedLetters(t *testing.T) {
	b := loaded(t, many)
	c := contextOf(t, b, "t")
	whole := "ABCZFZGZUAC"
	for cut := range len(whole) {
		p := proof.Parse(placed("(", "wi", "wz", "mp", ")", whole[:cut], whole[cut:]), behind)
		want := api.Verdict{Code: api.ErrNumber, At: placed("", "", "", "", "", "", whole[cut:])[6], Count: 1, Peak: 3}
		if cut == len(whole)-1 {
			want.At = placed("", "", "", "", "", whole[:cut])[5]
		}
		if v := Run(b, c, p); v != want {
			t.Errorf("P12.1: %q parted at %d: %v, want %v", whole, cut, v, want)
		}
	}
}
