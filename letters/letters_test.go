package letters

import (
	"fmt"
	"math"
	"slices"
	"strings"
	"testing"

	"lemma/api"
)

const (
	save = api.CodeSave
	open = api.CodeOpen
	bad  = api.CodeBad
	top  = 1 << 50
)

// words makes tokens of texts, each with a place of its own: so two of one text are told apart.
func words(texts ...string) []api.Token {
	var l []api.Token
	for i, s := range texts {
		l = append(l, api.Token{Text: s, At: api.Pos{Off: 7 * i, Line: i + 1, Col: 3 - i}})
	}
	return l
}

// numbers gives what codes say, without their words.
func numbers(l []api.Code) []int {
	var ns []int
	for _, c := range l {
		ns = append(ns, c.N)
	}
	return ns
}

// brief writes a list for a test's remark, its beginning alone if it is long, its bytes as they may be shown.
func brief[T any](l []T) string { return fmt.Sprintf("%.300s", fmt.Sprintf("%+q", fmt.Sprint(l))) }

// checkEncode holds a number's letters against what is wanted.
func checkEncode(t *testing.T, n int, want string) {
	t.Helper()
	if s, code := Encode(n); s != want || code != api.OK {
		t.Errorf("P9.1: Encode(%d) = %q, %d, want %q", n, s, code, want)
	}
}

// checkRead holds codes, without their words, against what is wanted.
func checkRead(t *testing.T, texts []string, cut bool, want ...int) {
	t.Helper()
	l, isCut := Decode(words(texts...))
	if !slices.Equal(numbers(l), want) || isCut != cut {
		t.Errorf("P9.1: Decode(%s) = %s, %v, want %s, %v", brief(texts), brief(numbers(l)), isCut, brief(want), cut)
	}
}

// checkTold holds codes with their words' numbers, two by two, against what is wanted.
func checkTold(t *testing.T, texts []string, cut bool, want ...int) {
	t.Helper()
	list := words(texts...)
	var codes []api.Code
	for i := 0; i < len(want); i += 2 {
		codes = append(codes, api.Code{N: want[i], At: list[want[i+1]]})
	}
	l, isCut := Decode(list)
	if !slices.Equal(l, codes) || isCut != cut {
		t.Errorf("P9.1: Decode(%s) = %s, %v, want %s, %v", brief(texts), brief(l), isCut, brief(codes), cut)
	}
}

func text(s string) []string { return []string{s} }

// P9.1: the chapter's examples of Encode, every letter, and the last number of all.
func TestEncode(t *testing.T) {
	for n, want := range map[int]string{0: "A", 19: "T", 20: "UA", 39: "UT", 40: "VA", 119: "YT", 120: "UUA", 619: "YYT", 620: "UUUA"} {
		checkEncode(t, n, want)
	}
	for n, letter := range "ABCDEFGHIJKLMNOPQRST" {
		checkEncode(t, n, string(letter))
		for d, ahead := range "UVWXY" {
			checkEncode(t, 20*(d+1)+n, string(ahead)+string(letter))
		}
	}
	checkEncode(t, top-1, "VXWWXWUXUVVVYUXVUYUUD")
	checkEncode(t, top-2, "VXWWXWUXUVVVYUXVUYUUC")
}

// P9.1: what is below 0, at 2^50 or above it, is refused, and nothing is told.
func TestEncodeRefuses(t *testing.T) {
	for _, n := range []int{-1, save, open, bad, -4, -20, -top, math.MinInt, math.MinInt + 1, top, top + 1, 2 * top, math.MaxInt - 1, math.MaxInt} {
		if s, code := Encode(n); s != "" || code != api.ErrLetters {
			t.Errorf("P9.1: Encode(%d) = %q, %d, want the error %d", n, s, code, api.ErrLetters)
		}
	}
}

// P9.1: the chapter's examples of Decode, and no words, empty words, words of one kind of byte.
func TestDecode(t *testing.T) {
	checkTold(t, text("AUAZ?"), false, 0, 0, 20, 0, save, 0, open, 0)
	checkTold(t, []string{"U", "", "A"}, false, 20, 2)
	checkTold(t, text("AU"), true, 0, 0)
	checkTold(t, text("UZ"), false, bad, 0, save, 0)
	checkTold(t, text("Ua"), false, bad, 0, bad, 0)
	checkTold(t, text("U?"), false, bad, 0, open, 0)
	checkTold(t, nil, false)
	checkTold(t, []string{}, false)
	checkTold(t, text(""), false)
	checkTold(t, []string{"", "", ""}, false)
	checkTold(t, text("ZZ"), false, save, 0, save, 0)
	checkTold(t, text("??"), false, open, 0, open, 0)
	checkTold(t, text("aa"), false, bad, 0, bad, 0)
	checkTold(t, text("AA"), false, 0, 0, 0, 0)
	checkTold(t, text("U"), true)
	checkTold(t, text("YYYY"), true)
}

// P9.1: each code is told with the word in which its last byte stands, the token as it is.
func TestDecodeTellsWords(t *testing.T) {
	checkTold(t, []string{"A", "A", "A"}, false, 0, 0, 0, 1, 0, 2)
	checkTold(t, []string{"AU", "UAB", "", "V", "", "CZ"}, false, 0, 0, 120, 1, 1, 1, 42, 5, save, 5)
	checkTold(t, []string{"U", "Z"}, false, bad, 1, save, 1)
	checkTold(t, []string{"U", "?"}, false, bad, 1, open, 1)
	checkTold(t, []string{"UV", "", "aZ", "A"}, false, bad, 2, bad, 2, save, 2, 0, 3)
	checkTold(t, []string{"", "U", "U", "", "T", ""}, false, 139, 4)
	checkTold(t, []string{"Z", "?", "(", "B"}, false, save, 0, open, 1, bad, 2, 1, 3)
	checkTold(t, []string{"AU", ""}, true, 0, 0)
	checkTold(t, []string{"", "BU", "", "Y", ""}, true, 1, 1)
	for _, word := range []api.Token{{}, {Text: "", At: api.Pos{Off: 1, Line: 2, Col: 3}}} {
		if l, cut := Decode([]api.Token{word}); len(l) != 0 || cut {
			t.Errorf("P9.1: Decode(%v) = %v, %v", word, l, cut)
		}
	}
	word := api.Token{Text: "UB", At: api.Pos{Off: math.MinInt, Line: -1, Col: math.MaxInt}}
	if l, cut := Decode([]api.Token{word}); cut || !slices.Equal(l, []api.Code{{N: 21, At: word}}) {
		t.Errorf("P9.1: Decode(%v) = %v, %v", word, l, cut)
	}
}

// ofByte gives what a byte says by itself; more says whether it is a digit ahead of others.
func ofByte(c int) (n int, more bool) {
	switch {
	case c >= 'A' && c <= 'T':
		return c - 'A', false
	case c >= 'U' && c <= 'Y':
		return c - 'U' + 1, true
	case c == 'Z':
		return save, false
	case c == '?':
		return open, false
	}
	return bad, false
}

// P9.1: every byte by itself, and every byte behind a digit: there it ends the number, goes on with it, or breaks it off.
func TestDecodeEveryByte(t *testing.T) {
	for c := range 256 {
		alone, behind := text(string([]byte{byte(c)})), text(string([]byte{'V', byte(c)}))
		switch n, more := ofByte(c); {
		case more:
			checkRead(t, alone, true)
			checkRead(t, behind, true)
		case n >= 0:
			checkRead(t, alone, false, n)
			checkRead(t, behind, false, 40+n)
		default:
			checkRead(t, alone, false, n)
			checkRead(t, behind, false, bad, n)
		}
	}
}

// P9.1: a rune of several bytes is as many codes as it has bytes, and so are bytes that are no rune; digits ahead of it break off once.
func TestDecodeRunes(t *testing.T) {
	for _, s := range []string{
		"\u0080", "é", "\u07ff", "\u0800", "€", "\ufffd", "\uffff", "\U00010000", "😀", "\U0010ffff", "Ａ", "\u0155",
		"\xff", "\x80", "\xbf", "\xc3", "\xe2\x82", "\xf0\x9f\x98", "\xc0\x80", "\xc1\x81", "\xed\xa0\x80", "\xf4\x90\x80\x80", "\xff\xfe\xfd", "\x80\xc3\xa9", "\xe2\x82\xc3\xa9",
		" ", "\t\n\r", "\x00", "az", "()", "\x7f", "0", "@", "[", "`", ">", "$.",
	} {
		bads := slices.Repeat([]int{bad}, len(s))
		checkRead(t, text(s), false, bads...)
		checkRead(t, text("U"+s), false, append([]int{bad}, bads...)...)
		checkRead(t, text("A"+s+"B"), false, slices.Concat([]int{0}, bads, []int{1})...)
		checkRead(t, text(s+"U"), true, bads...)
		checkRead(t, text(s+"UA"+s), false, slices.Concat(bads, []int{20}, bads)...)
		var cut []string
		for i := range len(s) {
			cut = append(cut, s[i:i+1])
		}
		checkRead(t, cut, false, bads...)
	}
}

// P9.1: digits break off at a byte once, not at the next again, and a number begins anew behind it.
func TestDecodeBreaksOff(t *testing.T) {
	checkRead(t, text("UUUUZZ"), false, bad, save, save)
	checkRead(t, text("U??"), false, bad, open, open)
	checkRead(t, text("Uab"), false, bad, bad, bad)
	checkRead(t, text("YZA"), false, bad, save, 0)
	checkRead(t, text("Y?UA"), false, bad, open, 20)
	checkRead(t, text("Y UA"), false, bad, bad, 20)
	checkRead(t, text("UZUZUA"), false, bad, save, bad, save, 20)
	checkRead(t, text("UZU"), true, bad, save)
	checkRead(t, text(strings.Repeat("Y", 100)+"ZA"), false, bad, save, 0)
	checkRead(t, text(strings.Repeat("Y", 100)+"?UA"), false, bad, open, 20)
}

// P9.1: a value of 2^50 or more is told as 2^50, however many digits there are; the number behind it begins anew.
func TestDecodeGreat(t *testing.T) {
	checkRead(t, text(strings.Repeat("Y", 100)+"A"), false, top)
	checkRead(t, text("VXWWXWUXUVVVYUXVUYUUC"), false, top-2)
	checkRead(t, text("VXWWXWUXUVVVYUXVUYUUD"), false, top-1)
	checkRead(t, text("VXWWXWUXUVVVYUXVUYUUE"), false, top)
	checkRead(t, text("VXWWXWUXUVVVYUXVUYUUF"), false, top)
	checkRead(t, text("VXWWXWUXUVVVYUXVUYUUT"), false, top)
	checkRead(t, text("VXWWXWUXUVVVYUXVUYUVA"), false, top)
	for _, n := range []int{22, 23, 24, 25, 26, 27, 28, 29, 30, 31, 63, 64, 65, 127, 128, 1000, 1000000} {
		for _, d := range "UVWXY" {
			digits := strings.Repeat(string(d), n)
			checkRead(t, text(digits+"A"), false, top)
			checkRead(t, text(digits+"TUAT"), false, top, 20, 19)
			checkRead(t, text("B"+digits), true, 1)
		}
	}
	checkRead(t, slices.Repeat(text("U"), 100000), true)
	checkTold(t, append(slices.Repeat(text("Y"), 1000), "TA"), false, top, 1000, 0, 1000)
}

// P9.1: the chapter's examples of Print, and codes of every kind side by side.
func TestPrint(t *testing.T) {
	for want, codes := range map[string][]int{
		"AZUA?":           {0, save, 20, open},
		"":                nil,
		"A":               {0},
		"Z":               {save},
		"?":               {open},
		"ZZ??":            {save, save, open, open},
		"YYTUUUA":         {619, 620},
		"TUAT":            {19, 20, 19},
		"YTZUUA?YYTUUUAZ": {119, save, 120, open, 619, 620, save},
	} {
		if s, code := Print(codes); s != want || code != api.OK {
			t.Errorf("P9.1: Print(%v) = %q, %d, want %q", codes, s, code, want)
		}
	}
	if s, code := Print([]int{}); s != "" || code != api.OK {
		t.Errorf("P9.1: Print of no code: %q, %d", s, code)
	}
	if s, code := Print([]int{top - 1, 0}); s != "VXWWXWUXUVVVYUXVUYUUDA" || code != api.OK {
		t.Errorf("P9.1: Print of the last number and the first: %q, %d", s, code)
	}
}

// P9.1: one code that may not be, wherever it stands, and nothing is told.
func TestPrintRefuses(t *testing.T) {
	for _, n := range []int{bad, -4, -5, -top, math.MinInt, top, top + 1, math.MaxInt} {
		for _, codes := range [][]int{{n}, {0, n}, {n, 0}, {save, 20, n, open}, {n, n}, {open, n}, {n, save}} {
			if s, code := Print(codes); s != "" || code != api.ErrLetters {
				t.Errorf("P9.1: Print(%v) = %q, %d, want the error %d", codes, s, code, api.ErrLetters)
			}
		}
	}
}

// P9.1: Print writes each code as it would by itself, of numbers as Encode.
func TestPrintOneBehindTheOther(t *testing.T) {
	r := rule(9)
	for range 200 {
		var codes []int
		var want strings.Builder
		for range r.below(50) {
			n := r.number() - 2
			codes = append(codes, n)
			switch n {
			case save:
				want.WriteString("Z")
			case open:
				want.WriteString("?")
			default:
				s, code := Encode(n)
				if code != api.OK {
					t.Fatalf("P9.1: Encode(%d): %d", n, code)
				}
				want.WriteString(s)
			}
		}
		if s, code := Print(codes); s != want.String() || code != api.OK {
			t.Fatalf("P9.1: Print(%v) = %q, %d, want %q", codes, s, code, want.String())
		}
	}
}

// rule gives numbers by a fixed rule.
type rule uint64

func (r *rule) below(n int) int {
	*r = *r*6364136223846793005 + 1442695040888963407
	return int(uint64(*r) >> 13 % uint64(n))
}

// number gives one of any length, short ones as often as long ones.
func (r *rule) number() int { return r.below(1 << (r.below(50) + 1)) }

func ExampleDecode() {
	codes, cut := Decode([]api.Token{{Text: "AUAZ"}, {Text: "?U"}})
	for _, c := range codes {
		fmt.Println(c.N, c.At.Text)
	}
	fmt.Println(cut)
	// Output:
	// 0 AUAZ
	// 20 AUAZ
	// -1 AUAZ
	// -2 ?U
	// true
}
