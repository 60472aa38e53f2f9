package stmt

import (
	"math"
	"reflect"
	"runtime"
	"slices"
	"strings"
	"testing"

	"lemma/api"
)

// words makes a list of tokens of the words of a text.
func words(text string) []api.Token { return tokens(strings.Fields(text)...) }

func tokens(list ...string) []api.Token {
	var l []api.Token
	for _, w := range list {
		l = append(l, api.Token{Text: w})
	}
	return l
}

// st makes a statement without places.
func st(kind int, label, body, proof string) api.Stmt {
	return api.Stmt{Kind: kind, Label: api.Token{Text: label}, Words: words(body), Proof: words(proof)}
}

func checkPrint(t *testing.T, want string, l ...api.Stmt) {
	t.Helper()
	if text, code := Print(l); code != api.OK || text != want {
		t.Errorf("P6.2: Print(%.200v) = %.80q, %d, want %.80q", l, text, code, want)
	}
}

func checkRefused(t *testing.T, want api.Errno, l ...api.Stmt) {
	t.Helper()
	if text, code := Print(l); code != want || text != "" {
		t.Errorf("P6.2: Print(%.200v) = %.80q, %d, want the error %d", l, text, code, want)
	}
}

// sound gives a statement of each of the nine kinds.
func sound() []api.Stmt {
	return []api.Stmt{
		st(api.StConst, "", "a b", ""), st(api.StVar, "", "x", ""), st(api.StFloat, "l", "a x", ""), st(api.StEss, "e", "a", ""), st(api.StDist, "", "x y", ""),
		st(api.StAxiom, "m", "a x", ""), st(api.StTheorem, "t", "a x", "l m"), st(api.StOpen, "", "", ""), st(api.StClose, "", "", ""),
	}
}

// P6.2: the chapter's examples, and a line for each kind.
func TestPrint(t *testing.T) {
	checkPrint(t, "")
	if text, code := Print([]api.Stmt{}); text != "" || code != api.OK {
		t.Errorf("P6.2: Print of no statement: %q, %d", text, code)
	}
	checkPrint(t, "t $p wff x $= w $.\n", st(api.StTheorem, "t", "wff x", "w"))
	checkPrint(t, "t $p w $= $.\n", st(api.StTheorem, "t", "w", ""))
	checkRefused(t, api.ErrForm, st(api.StFloat, "w", "wff", ""))
	checkRefused(t, api.ErrForm, st(api.StOpen, "x", "", ""))
	checkPrint(t, "$c a b $.\n$v x $.\nl $f a x $.\ne $e a $.\n$d x y $.\nm $a a x $.\nt $p a x $= l m $.\n${\n$}\n", sound()...)
	l, f := Read("t $p wff x $= w $.")
	if f != nil {
		t.Fatal(f)
	}
	checkPrint(t, "t $p wff x $= w $.\n", l...)
}

// P6.2: Key, End, Proving and places are not looked at; nil lists and empty ones are the same.
func TestPrintLooksAway(t *testing.T) {
	for _, s := range sound() {
		want, _ := Print([]api.Stmt{s})
		for _, w := range []string{"", "$c", "$}", "x", "a b", "\x00", "$="} {
			other := s
			at := api.Pos{Off: -1, Line: 7, Col: math.MinInt}
			other.Key, other.End, other.Proving = api.Token{Text: w, At: at}, api.Token{Text: w}, !s.Proving
			other.Label.At = at
			other.Words, other.Proof = slices.Clone(s.Words), slices.Clone(s.Proof)
			for i := range other.Words {
				other.Words[i].At = at
			}
			for i := range other.Proof {
				other.Proof[i].At = api.Pos{Off: math.MaxInt}
			}
			if len(s.Words) == 0 {
				other.Words = []api.Token{}
			}
			if len(s.Proof) == 0 {
				other.Proof = make([]api.Token, 0, 3)
			}
			checkPrint(t, want, other)
		}
	}
}

// P6.2: a Kind that is none.
func TestPrintKinds(t *testing.T) {
	for _, kind := range []int{math.MinInt, -7, -1, 0, 10, 11, 257, math.MaxInt} {
		for _, s := range sound() {
			s.Kind = kind
			checkRefused(t, api.ErrForm, s)
		}
		checkRefused(t, api.ErrForm, api.Stmt{Kind: kind})
	}
	checkRefused(t, api.ErrForm, api.Stmt{})
}

// P6.2: labels where one is wanted and where none is.
func TestPrintLabels(t *testing.T) {
	for _, s := range sound() {
		wanted := s.Label.Text != ""
		for _, name := range []string{"a", "(", "a$", "a$b", "x$(", "~", "!", strings.Repeat("z", 300)} {
			s.Label.Text = name
			if wanted {
				want := name + " " + keywords[s.Kind]
				if text, code := Print([]api.Stmt{s}); code != api.OK || !strings.HasPrefix(text, want) {
					t.Errorf("P6.2: the label %.40q: %.80q, %d", name, text, code)
				}
			} else {
				checkRefused(t, api.ErrForm, s)
			}
		}
		for _, name := range bad {
			s.Label.Text = name
			if wanted || name != "" {
				checkRefused(t, api.ErrForm, s)
			}
		}
	}
}

// bad are texts that are no plain words.
var bad = []string{"", "$", "$a", "$.", "$(", "$)", "$=", " ", "a b", " a", "a ", "a\n", "\ta", "a\x00", "\x1f", "\x7f", "a\x7f", "\x80", "a\xff", "\u00e9"}

// P6.2: words and proofs of words that are not plain, at each place.
func TestPrintBadWords(t *testing.T) {
	for _, s := range sound() {
		for _, w := range bad {
			for i := range s.Words {
				other := s
				other.Words = slices.Clone(s.Words)
				other.Words[i].Text = w
				checkRefused(t, api.ErrForm, other)
			}
			for i := range s.Proof {
				other := s
				other.Proof = slices.Clone(s.Proof)
				other.Proof[i].Text = w
				checkRefused(t, api.ErrForm, other)
			}
			other := s
			other.Proof = tokens(w)
			checkRefused(t, api.ErrForm, other)
		}
	}
}

// P6.2: every byte as a word, at a word's beginning and within it.
func TestPrintEveryByte(t *testing.T) {
	for n := range 256 {
		b := string([]byte{byte(n)})
		inside := n >= 33 && n <= 126
		for _, x := range []struct {
			word string
			fine bool
		}{{b, inside && n != '$'}, {b + "a", inside && n != '$'}, {"a" + b + "a", inside}, {"a" + b, inside}} {
			want := api.ErrForm
			if x.fine {
				want = api.OK
			}
			for _, s := range []api.Stmt{
				{Kind: api.StConst, Words: tokens(x.word)},
				{Kind: api.StEss, Label: api.Token{Text: x.word}, Words: tokens("a")},
				{Kind: api.StTheorem, Label: api.Token{Text: "t"}, Words: tokens("a"), Proof: tokens("u", x.word)},
			} {
				if _, code := Print([]api.Stmt{s}); code != want {
					t.Errorf("P6.2: the word %q in a statement of kind %d: %d, want %d", x.word, s.Kind, code, want)
				}
			}
		}
	}
}

// P6.2: how many words each kind has, and which has a proof.
func TestPrintHowMany(t *testing.T) {
	least := map[int]int{api.StFloat: 2, api.StDist: 2, api.StOpen: 0, api.StClose: 0}
	most := map[int]int{api.StFloat: 2, api.StDist: api.MaxVars, api.StOpen: 0, api.StClose: 0}
	for _, s := range sound() {
		low, ok := least[s.Kind]
		if !ok {
			low = 1
		}
		top, ok := most[s.Kind]
		if !ok {
			top = math.MaxInt
		}
		for _, n := range []int{0, 1, 2, 3, 4, 31, 32, 33, 34, 199, 200, 201, 5000} {
			s.Words = tokens(slices.Repeat([]string{"x"}, n)...)
			text, code := Print([]api.Stmt{s})
			switch {
			case n < low || n > top:
				checkRefused(t, api.ErrForm, s)
			case code != api.OK || strings.Count(text, "x") != n:
				t.Errorf("P6.2: kind %d with %d words: %.60q, %d", s.Kind, n, text, code)
			}
		}
	}
	for _, s := range sound() {
		s.Proof = tokens("u")
		if s.Kind != api.StTheorem {
			checkRefused(t, api.ErrForm, s)
		}
	}
	long := slices.Repeat([]string{"u"}, 9000)
	checkPrint(t, "t $p a $= "+strings.Join(long, " ")+" $.\n", api.Stmt{Kind: api.StTheorem, Label: api.Token{Text: "t"}, Words: tokens("a"), Proof: tokens(long...)})
}

// P6.2: the bytes of what is printed, at the limit and one above, whichever word is the long one.
func TestPrintBytes(t *testing.T) {
	z := func(n int) string { return strings.Repeat("z", n) }
	for _, x := range []struct {
		rest int
		make func(string) []api.Stmt
	}{
		{len("$c  $.\n"), func(w string) []api.Stmt { return []api.Stmt{{Kind: api.StConst, Words: tokens(w)}} }},
		{len("$c a  $.\n"), func(w string) []api.Stmt { return []api.Stmt{{Kind: api.StConst, Words: tokens("a", w)}} }},
		{len(" $a x $.\n"), func(w string) []api.Stmt { return []api.Stmt{st(api.StAxiom, w, "x", "")} }},
		{len("t $p a $=  $.\n"), func(w string) []api.Stmt { return []api.Stmt{st(api.StTheorem, "t", "a", w)} }},
		{len("t $p  $= $.\n"), func(w string) []api.Stmt { return []api.Stmt{st(api.StTheorem, "t", w, "")} }},
		{len("${\n$v  $.\n$}\n"), func(w string) []api.Stmt {
			return []api.Stmt{{Kind: api.StOpen}, st(api.StVar, "", w, ""), {Kind: api.StClose}}
		}},
	} {
		l := x.make(z(api.MaxText - x.rest))
		text, code := Print(l)
		if code != api.OK || len(text) != api.MaxText {
			t.Errorf("P6.2: just MaxText bytes: %d, %d", len(text), code)
		}
		if again, f := Read(text); f != nil || !same(again, l) {
			t.Errorf("P6.3: just MaxText bytes are not read back: %+v", f)
		}
		for _, more := range []int{1, 2, 3, 9, 100, api.MaxText} {
			l := x.make(z(api.MaxText - x.rest + more))
			checkRefused(t, api.ErrText, l...)
			checkRefused(t, api.ErrForm, append(l, api.Stmt{})...)
			checkRefused(t, api.ErrForm, append([]api.Stmt{st(api.StFloat, "l", "a", "")}, l...)...)
			checkRefused(t, api.ErrText, append(l, api.Stmt{Kind: api.StOpen})...)
		}
	}
}

// P6.2: the words of what is printed, at the limit and one above, whatever the last one is.
func TestPrintWords(t *testing.T) {
	x := func(n int) []api.Token { return tokens(slices.Repeat([]string{"x"}, n)...) }
	for _, c := range []struct {
		rest int
		make func(int) []api.Stmt
	}{
		{2, func(n int) []api.Stmt { return []api.Stmt{{Kind: api.StConst, Words: x(n)}} }},
		{3, func(n int) []api.Stmt {
			return []api.Stmt{{Kind: api.StAxiom, Label: api.Token{Text: "a"}, Words: x(n)}}
		}},
		{4, func(n int) []api.Stmt {
			return []api.Stmt{{Kind: api.StTheorem, Label: api.Token{Text: "t"}, Words: x(n)}}
		}},
		{5, func(n int) []api.Stmt {
			return []api.Stmt{{Kind: api.StTheorem, Label: api.Token{Text: "t"}, Words: x(1), Proof: x(n)}}
		}},
		{0, func(n int) []api.Stmt { return slices.Repeat([]api.Stmt{{Kind: api.StClose}}, n) }},
		{4, func(n int) []api.Stmt {
			return append(slices.Repeat([]api.Stmt{{Kind: api.StOpen}}, n), st(api.StDist, "", "x y", ""))
		}},
	} {
		l := c.make(api.MaxTokens - c.rest)
		text, code := Print(l)
		if n := len(strings.Fields(text)); code != api.OK || n != api.MaxTokens {
			t.Errorf("P6.2: just MaxTokens words: %d, %d", n, code)
		}
		if again, f := Read(text); f != nil || !same(again, l) {
			t.Errorf("P6.3: just MaxTokens words are not read back: %+v", f)
		}
		for _, more := range []int{1, 2, 3, 4, 500} {
			l := c.make(api.MaxTokens - c.rest + more)
			checkRefused(t, api.ErrText, l...)
			checkRefused(t, api.ErrForm, append(l, api.Stmt{Kind: 10})...)
		}
	}
}

// R10: a list that says one long word over and over is refused without its text being made.
func TestPrintMakesNoMore(t *testing.T) {
	long := st(api.StConst, "", strings.Repeat("z", api.MaxText-100), "")
	l := slices.Repeat([]api.Stmt{long}, 2000)
	var before, behind runtime.MemStats
	runtime.ReadMemStats(&before)
	_, code := Print(l)
	runtime.ReadMemStats(&behind)
	size := behind.TotalAlloc - before.TotalAlloc
	if code != api.ErrText || size > 32*api.MaxText {
		t.Errorf("R10: %d, %d bytes made", code, size)
	}
}

// R11: what is handed in stays as it is, its spare room too; what is told is new.
func TestPrintMemory(t *testing.T) {
	build := func() []api.Stmt {
		l := make([]api.Stmt, 0, 20)
		for _, s := range sound() {
			s.Words = append(make([]api.Token, 0, 5), s.Words...)
			s.Proof = append(make([]api.Token, 0, 5), s.Proof...)
			l = append(l, s)
		}
		return l
	}
	l := build()
	fine, code := Print(l)
	if code != api.OK || !reflect.DeepEqual(full(l), full(build())) {
		t.Errorf("R11: what is handed in has changed: %v", l)
	}
	want := strings.Clone(fine)
	l[0].Words[0].Text = "other"
	l[6] = api.Stmt{Kind: api.StOpen}
	if fine != want {
		t.Errorf("R11: what was told changed with what was handed in: %q", fine)
	}
	if again, _ := Print(build()); again != want {
		t.Errorf("R13: another answer: %q", again)
	}
	for _, l := range [][]api.Stmt{append(build(), api.Stmt{}), append(build(), st(api.StVar, "", strings.Repeat("z", api.MaxText), ""))} {
		before := full(l)
		if _, code := Print(l); code == api.OK || !reflect.DeepEqual(full(l), before) {
			t.Errorf("R11: what is refused (%d) has changed", code)
		}
	}
}

// full gives a copy of statements with their lists up to the end of their spare room.
func full(l []api.Stmt) []api.Stmt {
	out := slices.Clone(l[:cap(l)])
	for i, s := range out {
		out[i].Words = slices.Clone(s.Words[:cap(s.Words)])
		out[i].Proof = slices.Clone(s.Proof[:cap(s.Proof)])
	}
	return out
}
