package verify

import (
	"math"
	"slices"
	"strconv"
	"strings"
	"testing"

	"lemma/api"
)

// P14.2: each error of a plain run, at the beginning and behind other steps, with the word that offends.
func TestPlainErrors(t *testing.T) {
	b := loaded(t, many)
	c := contextOf(t, b, "t")
	says(t, b, c, "wx wy wi", api.OK, 0, 1, 2)
	says(t, b, c, "wx wy wi ?", api.ErrMissing, 3, 1, 2)
	says(t, b, c, "? no", api.ErrMissing, 0, 0, 0)
	says(t, b, c, "no", api.ErrUnknown, 0, 0, 0)
	says(t, b, c, "wx wy wi no", api.ErrUnknown, 3, 1, 2)
	says(t, b, c, "wff", api.ErrUnknown, 0, 0, 0)
	says(t, b, c, "min", api.ErrHidden, 0, 0, 0)
	says(t, b, c, "wx wx hx", api.ErrHidden, 2, 0, 2)
	says(t, b, c, "t", api.ErrLater, 0, 0, 0)
	says(t, b, c, "none late", api.ErrLater, 1, 1, 1)
	says(t, b, c, "wi", api.ErrUnder, 0, 0, 0)
	says(t, b, c, "wx wy wi wi", api.ErrUnder, 3, 1, 2)
	says(t, b, c, "wx wy dp", api.ErrApart, 2, 0, 2)
	says(t, b, c, "none wx dp wx dp", api.ErrApart, 4, 2, 2)
	long := "none" + strings.Repeat(" dd", 6)
	says(t, b, c, long, api.ErrGoal, -1, 7, 1)
	says(t, b, c, long+" dd", api.ErrTooLong, 7, 7, 1)
	says(t, b, c, "", api.ErrLeft, -1, 0, 0)
	says(t, b, c, "wx wy", api.ErrLeft, -1, 0, 2)
	says(t, b, c, "wx wy wi wz", api.ErrLeft, -1, 1, 2)
	says(t, b, c, "wy wx wi", api.ErrGoal, -1, 1, 2)
	says(t, b, c, "wx", api.ErrGoal, -1, 0, 1)
	inside := contextOf(t, b, "in")
	says(t, b, inside, "hx dd", api.ErrKind, 1, 0, 1)
	says(t, b, inside, "wx wx wi hx wi", api.ErrKind, 4, 1, 2)
	says(t, b, inside, "wx wy hx hx mp", api.ErrHyp, 4, 0, 4)
	says(t, b, inside, "hx", api.ErrGoal, -1, 0, 1)
	says(t, b, inside, "in", api.ErrLater, 0, 0, 0)
	// Brackets and letters say nothing in a plain proof: they are labels like others.
	says(t, b, c, ")", api.ErrUnknown, 0, 0, 0)
	says(t, b, c, "wx ( wi ) ABC", api.ErrUnknown, 1, 0, 1)
	says(t, b, c, "A", api.ErrUnknown, 0, 0, 0)
}

// P14.2: each error of a packed run: in the brackets, behind them, in the letters, at the end.
func TestPackedErrors(t *testing.T) {
	b := loaded(t, many)
	c := contextOf(t, b, "t") // A wx, B wy, then the brackets
	says(t, b, c, "( wi ) ABC", api.OK, 0, 1, 2)
	says(t, b, c, "( wi no ) ABC", api.ErrUnknown, 2, 0, 0)
	says(t, b, c, "( wi ? ) ABC", api.ErrUnknown, 2, 0, 0)
	says(t, b, c, "( ( ) A", api.ErrUnknown, 1, 0, 0)
	says(t, b, c, "( wi hx ) ABC", api.ErrHidden, 2, 0, 0)
	says(t, b, c, "( wi late ) ABC", api.ErrLater, 2, 0, 0)
	says(t, b, c, "( wi t", api.ErrLater, 2, 0, 0)
	says(t, b, c, "( wi wy ) ABC", api.ErrList, 2, 0, 0)
	says(t, b, c, "( wz wi wz ) ABD", api.ErrList, 3, 0, 0)
	says(t, b, c, "(", api.ErrList, -1, 0, 0)
	says(t, b, c, "( wi wz", api.ErrList, -1, 0, 0)
	says(t, b, c, "( wi ABC", api.ErrUnknown, 2, 0, 0)
	says(t, b, c, "( wi ) A B C a", api.ErrLetters, 6, 1, 2)
	says(t, b, c, "( wi ) A U Z", api.ErrLetters, 5, 0, 1)
	says(t, b, c, "( wi ) AB )", api.ErrLetters, 4, 0, 2)
	says(t, b, c, "( wi ) ABC ?", api.ErrMissing, 4, 1, 2)
	says(t, b, c, "( wi ) ZABC", api.ErrSave, 3, 0, 0)
	says(t, b, c, "( wi ) ABCZ Z", api.ErrSave, 4, 1, 2)
	says(t, b, c, "( wi ) A D BC", api.ErrNumber, 4, 0, 1)
	says(t, b, c, "( wi ) ABCZ E", api.ErrNumber, 4, 1, 2)
	says(t, b, c, "( wi ) A "+strings.Repeat("Y", 90)+" TB", api.ErrNumber, 5, 0, 1)
	says(t, b, c, "( wi ) ABC C", api.ErrUnder, 4, 1, 2)
	says(t, b, c, "( dp ) AB C", api.ErrApart, 4, 0, 2)
	says(t, b, c, "( none dd ) CDDDDDD D", api.ErrTooLong, 5, 7, 1)
	says(t, b, c, "( wi ) ABC U", api.ErrCut, -1, 1, 2)
	says(t, b, c, "( wi ) AB U", api.ErrCut, -1, 0, 2)
	says(t, b, c, "( )", api.ErrLeft, -1, 0, 0)
	says(t, b, c, "( wi )", api.ErrLeft, -1, 0, 0)
	says(t, b, c, "( wi ) ABCZD", api.ErrLeft, -1, 1, 2)
	says(t, b, c, "( wi ) BAC", api.ErrGoal, -1, 1, 2)
	inside := contextOf(t, b, "in") // A wx, B wy, C hx
	says(t, b, inside, "( wi ) AC D", api.ErrKind, 4, 0, 2)
	says(t, b, inside, "( mp ) ABCC D", api.ErrHyp, 4, 0, 4)
	says(t, b, inside, "( hx ) A", api.ErrList, 1, 0, 0)
	says(t, b, inside, "( mp wz ) E", api.ErrGoal, -1, 0, 1)
}

// Hard place: a proof without a word, and one of the word "(" alone, as words and as theorems.
func TestShortest(t *testing.T) {
	b := loaded(t, "$c w $. a $a w $. none $p w $= $. open $p w $= ( $. plain $p w $= a $. packed $p w $= ( a ) A $.")
	for n, want := range []api.Verdict{{Label: "none", Code: api.ErrLeft}, {Label: "open", Code: api.ErrList}, {Label: "plain", Count: 1, Peak: 1}, {Label: "packed", Count: 1, Peak: 1}} {
		a, _ := b.At(n + 1)
		if want.Code != api.OK {
			want.At = a.End
		}
		if v, code := Theorem(b, n+1); v != want || code != api.OK {
			t.Errorf("P14.2: %v, %d, want %v", v, code, want)
		}
	}
	for _, end := range []api.Token{{}, behind, {Text: "\xff", At: api.Pos{Off: -1, Line: math.MinInt}}} {
		for _, c := range []api.Context{contextOf(t, b, "none"), {}} {
			for _, words := range [][]api.Token{nil, {}} {
				if v := Text(b, c, words, end); v != (api.Verdict{Code: api.ErrLeft, At: end}) {
					t.Errorf("P14.2: no words: %v", v)
				}
			}
			if v := Text(b, c, Words([]string{"("}), end); v != (api.Verdict{Code: api.ErrList, At: end}) {
				t.Errorf("P14.2: an open bracket: %v", v)
			}
		}
	}
}

// P14.2: at most MaxStack entries, plain and packed; Peak at ErrDeep is MaxStack.
func TestDeep(t *testing.T) {
	b := loaded(t, "$c w $. g $a w $. ${ e $e w $. f $e w $. j $a w $. $} ${ h $e w $. t $p w $= ? $. $}")
	c := contextOf(t, b, "t") // A h, B g, C j, D the first saved
	applies := map[string]int{"h": 0, "g": 1, "A": 0, "B": 1}
	for _, push := range []string{"h", "g"} {
		counts := applies[push]
		full := strings.Repeat(push+" ", 40)
		says(t, b, c, full+strings.Repeat("j ", 39), api.OK, 0, 39+40*counts, 40)
		says(t, b, c, full, api.ErrLeft, -1, 40*counts, 40)
		says(t, b, c, full+"g", api.ErrDeep, 40, 40*counts, 40)
		says(t, b, c, full+"h j", api.ErrDeep, 40, 40*counts, 40)
		says(t, b, c, full+"j h "+strings.Repeat("j ", 39), api.OK, 0, 40+40*counts, 40)
		says(t, b, c, full+"j h h", api.ErrDeep, 42, 1+40*counts, 40)
	}
	list := "( g j ) "
	for codes, counts := range map[string]int{strings.Repeat("A", 40): 0, strings.Repeat("BZ", 40): 40, "AZ" + strings.Repeat("D", 39): 0, "BZ" + strings.Repeat("DZ", 39): 1} {
		says(t, b, c, list+codes+strings.Repeat("C", 39), api.OK, 0, counts+39, 40)
		says(t, b, c, list+codes, api.ErrLeft, -1, counts, 40)
		for _, more := range []string{"A", "B"} {
			says(t, b, c, list+codes+" "+more, api.ErrDeep, 5, counts, 40)
			says(t, b, c, list+codes+" C"+more+" "+more, api.ErrDeep, 6, counts+1+applies[more], 40)
		}
		if strings.Contains(codes, "D") {
			says(t, b, c, list+codes+" D", api.ErrDeep, 5, counts, 40)
		}
	}
}

// P14.2: at most MaxProof steps, plain and packed, saves counted; the step too many is told, whatever it is.
func TestSteps(t *testing.T) {
	b := loaded(t, "$c w $. g $a w $. ${ e $e w $. j $a w $. $} t $p w $= ? $.")
	c := contextOf(t, b, "t") // A g, B j
	plain := "g" + strings.Repeat(" j", api.MaxProof-1)
	packed := "( g j ) A" + strings.Repeat("B", api.MaxProof-1)
	saving := "( g j ) A" + strings.Repeat("ZB", api.MaxProof/2-1) + "Z"
	says(t, b, c, plain, api.OK, 0, api.MaxProof, 1)
	says(t, b, c, packed, api.OK, 0, api.MaxProof, 1)
	says(t, b, c, saving, api.OK, 0, api.MaxProof/2, 1)
	for _, more := range []string{"j", "g", "?", "no", "e", "t", "j ?"} {
		says(t, b, c, plain+" "+more, api.ErrSteps, api.MaxProof, api.MaxProof, 1)
	}
	for _, more := range []string{"B", "A", "Z", "?", "a", "YYT", "UZ", "? ?"} {
		says(t, b, c, packed+" "+more, api.ErrSteps, 5, api.MaxProof, 1)
		says(t, b, c, saving+" "+more, api.ErrSteps, 5, api.MaxProof/2, 1)
	}
	says(t, b, c, packed+" U", api.ErrCut, -1, api.MaxProof, 1)
	says(t, b, c, strings.TrimSuffix(plain, "j")+"?", api.ErrMissing, api.MaxProof-1, api.MaxProof-1, 1)
	says(t, b, c, strings.TrimSuffix(plain, "j")+"no", api.ErrUnknown, api.MaxProof-1, api.MaxProof-1, 1)
	says(t, b, c, "? "+plain, api.ErrMissing, 0, 0, 0)
}

// P14.4: back references and hypotheses apply nothing; a hypothesis of the context under an assertion's label is no assertion.
func TestCount(t *testing.T) {
	b := loaded(t, "$c w $. g $a w $. ${ e $e w $. f $e w $. j $a w $. $} ${ h $e w $. t $p w $= ? $. $}")
	c := contextOf(t, b, "t") // A h, B g, C j, D the first saved
	says(t, b, c, "h", api.OK, 0, 0, 1)
	says(t, b, c, "g", api.OK, 0, 1, 1)
	says(t, b, c, "h h j h g j j", api.OK, 0, 4, 3)
	says(t, b, c, "( g j ) A", api.OK, 0, 0, 1)
	says(t, b, c, "( g j ) AZ", api.OK, 0, 0, 1)
	says(t, b, c, "( g j ) B", api.OK, 0, 1, 1)
	says(t, b, c, "( g j ) BZDC", api.OK, 0, 2, 2)
	says(t, b, c, "( g j ) BZDZEDCCC", api.OK, 0, 4, 4)
	says(t, b, c, "( g j ) BBCZDC", api.OK, 0, 4, 2)
	says(t, b, c, "( j g ) ACCCBBB", api.OK, 0, 6, 4) // A h, B j, C g
	c.Hyps = append(c.Hyps, api.Hyp{Label: "g", Var: -1, Expr: c.Goal})
	says(t, b, c, "g", api.OK, 0, 0, 1)
	says(t, b, c, "g g j", api.OK, 0, 1, 2)
	says(t, b, c, "( g ) B", api.OK, 0, 0, 1)
	says(t, b, c, "( g j ) BBC", api.OK, 0, 1, 2)
}

// P14.1: contexts that no layer makes: lists of any kind, any Before, any pairs, any goal.
func TestOddContexts(t *testing.T) {
	b := loaded(t, many)
	c := contextOf(t, b, "t")
	odd := api.Context{
		Hyps:      []api.Hyp{{Label: "wi", Expr: c.Goal}, {Label: "two", Expr: c.Goal}, {Label: "two", Expr: []int{5}}, {}, {Label: "(", Expr: c.Goal}, {Label: ")", Expr: c.Goal}, {Label: "?", Expr: c.Goal}, {Label: "big", Floating: true, Var: math.MinInt, Expr: slices.Repeat([]int{-9}, 900)}, {Label: "none", Expr: []int{math.MaxInt}}},
		Mandatory: []api.Hyp{{Label: "new", Expr: c.Goal}, {Label: "two", Expr: []int{7}}, {Label: "new"}},
		Pairs:     []api.Pair{{A: 1, B: 1}, {A: 99, B: -99}, {A: math.MinInt, B: math.MaxInt}},
		Before:    math.MinInt,
		Goal:      c.Goal,
	}
	says(t, b, odd, "wi", api.OK, 0, 0, 1)
	says(t, b, odd, "two", api.OK, 0, 0, 1)
	says(t, b, odd, ")", api.OK, 0, 0, 1)
	says(t, b, odd, "?", api.ErrMissing, 0, 0, 0)
	says(t, b, odd, "(", api.ErrList, -1, 0, 0)
	says(t, b, odd, "wi ( ) ?", api.ErrMissing, 3, 0, 3)
	says(t, b, odd, "big none", api.ErrLeft, -1, 0, 2)
	says(t, b, odd, "big dd", api.ErrLater, 1, 0, 1)
	says(t, b, odd, "wx", api.ErrHidden, 0, 0, 0)
	says(t, b, odd, "new", api.ErrUnknown, 0, 0, 0)
	says(t, b, odd, "( ) A", api.OK, 0, 0, 1)
	says(t, b, odd, "( ( ) D", api.OK, 0, 0, 1)
	says(t, b, odd, "( ? wi ) D", api.OK, 0, 0, 1)
	says(t, b, odd, "( wi ) B", api.ErrGoal, -1, 0, 1)
	says(t, b, odd, "( two ) A", api.ErrList, 1, 0, 0)
	says(t, b, odd, "( new ) A", api.ErrUnknown, 1, 0, 0)
	odd.Before = math.MaxInt
	says(t, b, odd, "big dd", api.ErrKind, 1, 0, 1)
	says(t, b, odd, "late", api.ErrUnder, 0, 0, 0)
	odd.Hyps = append(odd.Hyps, api.Hyp{Label: "w", Expr: []int{0}}, api.Hyp{Label: "long", Expr: append([]int{0}, slices.Repeat([]int{-9}, 100)...)})
	says(t, b, odd, "w dd", api.ErrGoal, -1, 1, 1)
	says(t, b, odd, "long dd", api.ErrTooLong, 1, 0, 1)
	says(t, b, odd, "long w dp late", api.ErrGoal, -1, 2, 2)
	for _, goal := range []api.Expr{nil, {}, {-1}, slices.Repeat([]int{math.MaxInt}, 5000)} {
		c := api.Context{Hyps: []api.Hyp{{Label: "h", Expr: goal}}, Mandatory: []api.Hyp{{Label: "h", Expr: goal}}, Goal: goal}
		says(t, b, c, "h", api.OK, 0, 0, 1)
		says(t, b, c, "( ) A", api.OK, 0, 0, 1)
		says(t, b, c, "( ) AZB", api.ErrLeft, -1, 0, 2)
		says(t, b, api.Context{Goal: goal}, "", api.ErrLeft, -1, 0, 0)
		says(t, b, api.Context{Goal: goal}, "none", api.ErrLater, 0, 0, 0)
	}
}

// P14.1: words that no layer makes: no letter, blanks, any bytes, very long, very many, at any place.
func TestOddWords(t *testing.T) {
	b := loaded(t, many)
	c := contextOf(t, b, "t")
	far := api.Pos{Off: math.MinInt, Line: math.MaxInt, Col: -1}
	for _, odd := range []string{"", " ", "wx wy", "\x00", "\xff\xfe", "\u00e9", "$.", "$(", "( )", "\n", strings.Repeat("wx", 1<<16), strings.Repeat("U", 1<<16) + "a"} {
		word := api.Token{Text: odd, At: far}
		if v := Text(b, c, []api.Token{{Text: "wx"}, word, {Text: "wi"}}, behind); v != (api.Verdict{Code: api.ErrUnknown, At: word, Peak: 1}) {
			t.Errorf("P14.1: a plain proof with the word %.50q: %.200v", odd, v)
		}
		if v := Text(b, c, []api.Token{{Text: "("}, {Text: "wi"}, word, {Text: ")"}}, behind); v != (api.Verdict{Code: api.ErrUnknown, At: word}) {
			t.Errorf("P14.1: brackets with the word %.50q: %.200v", odd, v)
		}
		want := api.Verdict{Code: api.ErrLetters, At: word, Peak: 1}
		if odd == "" {
			want = api.Verdict{Code: api.ErrMissing, At: api.Token{Text: "?"}, Peak: 1}
		}
		if v := Text(b, c, []api.Token{{Text: "("}, {Text: ")"}, {Text: "A"}, word, {Text: "?"}}, behind); v != want {
			t.Errorf("P14.1: letters with the word %.50q: %.200v, want %.200v", odd, v, want)
		}
	}
	// Words without a letter are no letters: the verdict is that of the others.
	empty := []api.Token{{Text: "("}, {Text: "wi"}, {Text: ")"}, {}, {Text: "AB"}, {}, {Text: "C"}, {}}
	if v := Text(b, c, empty, behind); v != (api.Verdict{Count: 1, Peak: 2}) {
		t.Errorf("P14.1: letters with empty words between: %v", v)
	}
	says(t, b, c, strings.Repeat("wx ", 1<<17), api.ErrDeep, 40, 0, 40)
	says(t, b, c, "( wi ) "+strings.Repeat("AZ", 1<<17), api.ErrDeep, 3, 0, 40)
	says(t, b, c, "( wi ) "+strings.Repeat("Y ", 1<<17)+"A", api.ErrNumber, 3+1<<17, 0, 0)
	says(t, b, c, "( "+strings.Repeat("wi ", 1<<17), api.ErrList, 2, 0, 0)
	says(t, b, c, "( wi ) "+strings.Repeat("U ", 1<<17), api.ErrCut, -1, 0, 0)
}

// P14.2: a packed proof counts the mandatory hypotheses first: all of them in the context of a theorem, those of the goal in one made by Behind.
func TestBehind(t *testing.T) {
	b := loaded(t, many)
	n, _ := b.Find("t")
	goal, _ := b.Read(strings.Fields("wff ( z -> z )"))
	c, _ := b.Behind(n, goal) // A wz
	says(t, b, c, "wz wz wi", api.OK, 0, 1, 2)
	says(t, b, c, "( wi ) AAB", api.OK, 0, 1, 2)
	says(t, b, c, "( wi late ) AZCDCB", api.OK, 0, 3, 2)
	says(t, b, c, "wz late wz wi", api.OK, 0, 2, 2)
	says(t, b, c, "( wz wi ) AAB", api.ErrList, 1, 0, 0)
	says(t, b, c, "wz t wz wi", api.ErrUnder, 1, 0, 1)
	says(t, b, c, "wx wy t", api.ErrGoal, -1, 1, 2)
}

// Many hypotheses and long brackets: each label has its number.
func TestManyLabels(t *testing.T) {
	b := loaded(t, many)
	var c api.Context
	var words []string
	for i := range 3000 {
		words = append(words, "h"+strconv.Itoa(i))
		c.Hyps = append(c.Hyps, api.Hyp{Label: words[i], Expr: []int{i}})
	}
	list := "( " + strings.Join(words, " ") + " ) "
	for _, i := range []int{0, 19, 20, 119, 120, 2999} {
		c.Goal = []int{i}
		code := proofLetters(i)
		says(t, b, c, list+code, api.OK, 0, 0, 1)
		says(t, b, c, words[i], api.OK, 0, 0, 1)
	}
	says(t, b, c, list+proofLetters(3000), api.ErrNumber, 3002, 0, 0)
}

// proofLetters writes a number by R9, digit by digit.
func proofLetters(n int) string {
	text := string(rune('A' + n%20))
	for n /= 20; n > 0; n = (n - 1) / 5 {
		text = string(rune('U'+(n-1)%5)) + text
	}
	return text
}
