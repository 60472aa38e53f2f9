package scan

import (
	"errors"
	"slices"
	"strings"
	"testing"
	"unsafe"

	"lemma/api"
)

func pos(off, line, col int) api.Pos { return api.Pos{Off: off, Line: line, Col: col} }

func word(text string, off, line, col int) api.Token {
	return api.Token{Text: text, At: pos(off, line, col)}
}

func fault(code api.Errno, text string, off, line, col int) *api.Fault {
	return &api.Fault{At: pos(off, line, col), Text: text, Code: code}
}

// checkScan holds what Scan answers against the words and the fault that are wanted.
func checkScan(t *testing.T, text string, words []api.Token, want *api.Fault) {
	t.Helper()
	got, f := Scan(text)
	if !slices.Equal(got, words) {
		t.Errorf("Scan(%.60q): words %v, want %v", text, clip(got), clip(words))
	}
	if !sameFault(f, want) {
		t.Errorf("Scan(%.60q): fault %+v, want %+v", text, f, want)
	}
}

func clip(l []api.Token) []api.Token { return l[:min(len(l), 8)] }

func sameFault(f, g *api.Fault) bool {
	if f == nil || g == nil {
		return f == g
	}
	return *f == *g
}

// 1.1: the chapter's examples.
func TestScanExamples(t *testing.T) {
	checkScan(t, "", nil, nil)
	checkScan(t, " \n ", nil, nil)
	checkScan(t, "ax $a\n |- x $.", []api.Token{word("ax", 0, 1, 1), word("$a", 3, 1, 4), word("|-", 7, 2, 2), word("x", 10, 2, 5), word("$.", 12, 2, 7)}, nil)
	checkScan(t, "a $( b c $) d", []api.Token{word("a", 0, 1, 1), word("d", 12, 1, 13)}, nil)
	checkScan(t, "a $( b", []api.Token{word("a", 0, 1, 1)}, fault(api.ErrOpen, "$(", 2, 1, 3))
	checkScan(t, "a $) b", []api.Token{word("a", 0, 1, 1)}, fault(api.ErrComment, "$)", 2, 1, 3))
	checkScan(t, "$( $( $)", nil, fault(api.ErrComment, "$(", 3, 1, 4))
	checkScan(t, "$( x$) $)", nil, fault(api.ErrComment, "x$)", 3, 1, 4))
	checkScan(t, "$(x $)", []api.Token{word("$(x", 0, 1, 1)}, fault(api.ErrComment, "$)", 4, 1, 5))
	checkScan(t, "ab\x00c", nil, fault(api.ErrChar, "", 2, 1, 3))
	checkScan(t, "ab \x7f", []api.Token{word("ab", 0, 1, 1)}, fault(api.ErrChar, "", 3, 1, 4))
	checkScan(t, "$( \xc3\xa9", nil, fault(api.ErrChar, "", 3, 1, 4))
	checkScan(t, "$(", nil, fault(api.ErrOpen, "$(", 0, 1, 1))
}

// 1.1: every byte, alone, in the midst of a word, and in a comment.
func TestScanEveryByte(t *testing.T) {
	for n := range 256 {
		b := string([]byte{byte(n)})
		switch {
		case strings.Contains("\t\n\f\r ", b):
			line, col := 1, 3
			if n == '\n' {
				line, col = 2, 1
			}
			checkScan(t, b, nil, nil)
			checkScan(t, "a"+b+"c", []api.Token{word("a", 0, 1, 1), word("c", 2, line, col)}, nil)
			checkScan(t, "$("+b+"$)", nil, nil)
		case n >= 33 && n <= 126:
			checkScan(t, b, []api.Token{word(b, 0, 1, 1)}, nil)
			checkScan(t, "a"+b+"c", []api.Token{word("a"+b+"c", 0, 1, 1)}, nil)
			checkScan(t, "$( "+b+" $)", nil, nil)
		default:
			checkScan(t, b, nil, fault(api.ErrChar, "", 0, 1, 1))
			checkScan(t, "x a"+b+"c", []api.Token{word("x", 0, 1, 1)}, fault(api.ErrChar, "", 3, 1, 4))
			checkScan(t, "$(\n"+b+" $)", nil, fault(api.ErrChar, "", 3, 2, 1))
		}
	}
}

// 1.1: a byte that may not stand is looked at ahead of the word that it breaks off.
func TestScanBrokenWord(t *testing.T) {
	checkScan(t, "a $)\x01", []api.Token{word("a", 0, 1, 1)}, fault(api.ErrChar, "", 4, 1, 5))
	checkScan(t, "$( x$(\x01", nil, fault(api.ErrChar, "", 6, 1, 7))
	checkScan(t, "$(\x01 $)", nil, fault(api.ErrChar, "", 2, 1, 3))
	checkScan(t, "$) \x01", nil, fault(api.ErrComment, "$)", 0, 1, 1))
	full := strings.Repeat("a ", api.MaxTokens)
	_, f := Scan(full + "b\x01")
	if want := fault(api.ErrChar, "", len(full)+1, 1, len(full)+2); !sameFault(f, want) {
		t.Errorf("a byte that breaks off the word too many: %+v, want %+v", f, want)
	}
}

// 1.1: "$(" and "$)" are words only with blanks about them; comments don't nest.
func TestScanComments(t *testing.T) {
	checkScan(t, "$( $) a", []api.Token{word("a", 6, 1, 7)}, nil)
	checkScan(t, "a\n$(\n$)\nb", []api.Token{word("a", 0, 1, 1), word("b", 8, 4, 1)}, nil)
	checkScan(t, "$( a $) $( b $)", nil, nil)
	checkScan(t, "$($) x$( x$) $(x", []api.Token{word("$($)", 0, 1, 1), word("x$(", 5, 1, 6), word("x$)", 9, 1, 10), word("$(x", 13, 1, 14)}, nil)
	checkScan(t, "$( $ ( ) $x )$ ($ $)", nil, nil)
	for _, bad := range []string{"$(", "$(x", "x$(", "$)x", "x$)x", "$($)", "$$)", "$)$)"} {
		checkScan(t, "$( "+bad+" $)", nil, fault(api.ErrComment, bad, 3, 1, 4))
		checkScan(t, "$( "+bad, nil, fault(api.ErrComment, bad, 3, 1, 4))
	}
	checkScan(t, "$( $) $)", nil, fault(api.ErrComment, "$)", 6, 1, 7))
	checkScan(t, "a $( $) $(\n\n", []api.Token{word("a", 0, 1, 1)}, fault(api.ErrOpen, "$(", 8, 1, 9))
	checkScan(t, "$( $)x", nil, fault(api.ErrComment, "$)x", 3, 1, 4))
}

// 1.1: the byte number MaxText.
func TestScanTextLimit(t *testing.T) {
	full := strings.Repeat("\n", api.MaxText-2) + "xy"
	checkScan(t, full, []api.Token{word("xy", api.MaxText-2, api.MaxText-1, 1)}, nil)
	for _, more := range []string{" ", "\n", "z", "\x00", "\xff", " z"} {
		checkScan(t, full+more, nil, fault(api.ErrText, "", api.MaxText, api.MaxText-1, 3))
	}

	blank := strings.Repeat(" ", api.MaxText-3)
	checkScan(t, blank+"xy ", []api.Token{word("xy", api.MaxText-3, 1, api.MaxText-2)}, nil)
	checkScan(t, blank+"xy z", []api.Token{word("xy", api.MaxText-3, 1, api.MaxText-2)}, fault(api.ErrText, "", api.MaxText, 1, api.MaxText+1))
	checkScan(t, blank+"x\x00z", nil, fault(api.ErrChar, "", api.MaxText-2, 1, api.MaxText-1))
	checkScan(t, blank+" \n\n"+"x", nil, fault(api.ErrText, "", api.MaxText, 3, 1))

	checkScan(t, blank+" $)", nil, fault(api.ErrComment, "$)", api.MaxText-2, 1, api.MaxText-1))
	checkScan(t, blank+" $) ", nil, fault(api.ErrText, "", api.MaxText, 1, api.MaxText+1))

	long := strings.Repeat("x", api.MaxText)
	checkScan(t, long, []api.Token{word(long, 0, 1, 1)}, nil)
	checkScan(t, long+"x", nil, fault(api.ErrText, "", api.MaxText, 1, api.MaxText+1))
}

// 1.1: a comment that is open where the byte number MaxText comes, or where a text of MaxText bytes ends.
func TestScanOpenAtTextLimit(t *testing.T) {
	open := "$(" + strings.Repeat(" ", api.MaxText-2)
	checkScan(t, open, nil, fault(api.ErrOpen, "$(", 0, 1, 1))
	checkScan(t, open+" ", nil, fault(api.ErrText, "", api.MaxText, 1, api.MaxText+1))
	ended := open[:api.MaxText-2] + "$)"
	checkScan(t, ended, nil, nil)
	checkScan(t, ended+" ", nil, fault(api.ErrText, "", api.MaxText, 1, api.MaxText+1))
}

// 1.1: the word number MaxTokens.
func TestScanWordLimit(t *testing.T) {
	full := strings.Repeat("a ", api.MaxTokens)
	words := make([]api.Token, api.MaxTokens)
	for i := range words {
		words[i] = word("a", 2*i, 1, 2*i+1)
	}
	checkScan(t, full, words, nil)
	checkScan(t, full[:len(full)-1], words, nil)
	checkScan(t, full+"$( b c $)", words, nil)
	checkScan(t, "$( b c $)\n"+full, shift(words, 10), nil)
	end := len(full)
	checkScan(t, full+"bcd", words, fault(api.ErrText, "bcd", end, 1, end+1))
	checkScan(t, full+"\n$( $)\nbcd \x00", words, fault(api.ErrText, "bcd", end+7, 3, 1))
	checkScan(t, full+"$)", words, fault(api.ErrComment, "$)", end, 1, end+1))
	checkScan(t, full+"$( b", words, fault(api.ErrOpen, "$(", end, 1, end+1))
}

// shift moves words of a first line to a second one that begins at the offset by.
func shift(l []api.Token, by int) []api.Token {
	var out []api.Token
	for _, w := range l {
		out = append(out, word(w.Text, w.At.Off+by, w.At.Line+1, w.At.Col))
	}
	return out
}

// 1.1, R12: a fault wraps its code.
func TestScanFaultIsItsCode(t *testing.T) {
	_, f := Scan("\x00")
	if f == nil || !errors.Is(f, api.ErrChar) {
		t.Errorf("%v is not ErrChar", f)
	}
}

// 1.2 and 1.3: every byte, alone and among others.
func TestNamesEveryByte(t *testing.T) {
	const label = "abcdefghijklmnopqrstuvwxyzABCDEFGHIJKLMNOPQRSTUVWXYZ0123456789.-_"
	for n := range 256 {
		b := string([]byte{byte(n)})
		isName, isSymbol := strings.Contains(label, b), n >= 33 && n <= 126 && n != '$'
		for _, s := range []string{b, "a" + b, b + "a", "a" + b + "a"} {
			if Name(s) != isName || Symbol(s) != isSymbol {
				t.Errorf("%q: Name %v, Symbol %v", s, Name(s), Symbol(s))
			}
		}
	}
}

// 1.2 and 1.3: the chapter's examples, and the lengths.
func TestNames(t *testing.T) {
	most, over := strings.Repeat("a", api.MaxWord), strings.Repeat("a", api.MaxWord+1)
	for _, x := range []struct {
		s            string
		name, symbol bool
	}{
		{"ax-1.b_C", true, true}, {"", false, false}, {"a$", false, false}, {"a b", false, false},
		{most, true, true}, {over, false, false},
		{strings.Repeat("|", api.MaxWord), false, true}, {strings.Repeat("|", api.MaxWord+1), false, false},
		{most[1:] + "$", false, false}, {most[1:] + "|", false, true}, {strings.Repeat("a", 1<<16), false, false},
		{"|-", false, true}, {"(", false, true}, {"`", false, true}, {"$", false, false}, {"a$b", false, false},
		{"\u00e9", false, false}, {"a\n", false, false}, {" ", false, false},
	} {
		if Name(x.s) != x.name || Symbol(x.s) != x.symbol {
			t.Errorf("%.40q: Name %v, Symbol %v", x.s, Name(x.s), Symbol(x.s))
		}
	}
}

// 1.4: the chapter's examples, edges, and texts that Scan refuses.
func TestPlace(t *testing.T) {
	long := strings.Repeat("\n", api.MaxText) + "\x00\xff"
	for _, x := range []struct {
		text string
		off  int
		want api.Pos
		ok   bool
	}{
		{"a\nb", 0, pos(0, 1, 1), true}, {"a\nb", 1, pos(1, 1, 2), true}, {"a\nb", 2, pos(2, 2, 1), true}, {"a\nb", 3, pos(3, 2, 2), true},
		{"a\nb", 4, api.Pos{}, false}, {"a\nb", -1, api.Pos{}, false}, {"", -1, api.Pos{}, false}, {"", 0, pos(0, 1, 1), true}, {"", 1, api.Pos{}, false},
		{"a\n", 2, pos(2, 2, 1), true}, {"\n\n", 1, pos(1, 2, 1), true},
		{"a\rb\fc", 4, pos(4, 1, 5), true}, {"\r\nx", 1, pos(1, 1, 2), true}, {"\xc3\xa9x", 2, pos(2, 1, 3), true},
		{long, len(long), pos(len(long), api.MaxText+1, 3), true}, {long, len(long) + 1, api.Pos{}, false},
		{"a", int(^uint(0) >> 1), api.Pos{}, false}, {"a", -int(^uint(0)>>1) - 1, api.Pos{}, false},
	} {
		if p, ok := Place(x.text, x.off); p != x.want || ok != x.ok {
			t.Errorf("Place(%.20q, %d) = %v, %v, want %v, %v", x.text, x.off, p, ok, x.want, x.ok)
		}
	}
}

// 1.4: every byte's place follows from that of the byte ahead of it.
func TestPlaceStepByStep(t *testing.T) {
	text := "ab\n\nc\r\n\x00\xff\n d"
	want := pos(0, 1, 1)
	for off := range len(text) + 1 {
		if p, ok := Place(text, off); p != want || !ok {
			t.Errorf("Place(%q, %d) = %v, %v, want %v", text, off, p, ok, want)
		}
		if off < len(text) && text[off] == '\n' {
			want = pos(off+1, want.Line+1, 1)
		} else {
			want = pos(off+1, want.Line, want.Col+1)
		}
	}
}

// 1.6: other blanks, and comments put between words, change no word.
func TestBlanksAndComments(t *testing.T) {
	plain := strings.Fields("$c |- wff ( ) $. ax-1 $a |- x$(y $( $. $) $($) $.")
	want := texts(t, strings.Join(plain, " "))
	for _, blank := range []string{"  ", "\t", "\n", "\f", "\r", "\r\n", "\n \t\f\r "} {
		got := texts(t, blank+strings.Join(plain, blank)+blank)
		if !slices.Equal(got, want) {
			t.Errorf("with the blanks %q: %q, want %q", blank, got, want)
		}
	}
	told := strings.Join(want, " ")
	for _, comment := range []string{"$( $)", "$( a\n$. $c $)", "$(\n$) $( x $)"} {
		for i := range len(want) + 1 {
			text := strings.Join(slices.Insert(slices.Clone(want), i, comment), " ")
			if got := texts(t, text); !slices.Equal(got, want) {
				t.Errorf("Scan(%q): %q, want the words of %q", text, got, told)
			}
		}
	}
}

func texts(t *testing.T, text string) []string {
	t.Helper()
	l, f := Scan(text)
	if f != nil {
		t.Errorf("Scan(%q): fault %+v", text, f)
	}
	var out []string
	for _, w := range l {
		out = append(out, w.Text)
	}
	return out
}

// 1.7: what was answered once does not change with what is done to another answer.
func TestScanAnswersApart(t *testing.T) {
	const text = "a b $) c"
	first, firstFault := Scan(text)
	second, secondFault := Scan(text)
	for i := range first {
		first[i] = word("other", 9, 9, 9)
	}
	_ = append(first, word("spare", 9, 9, 9))
	*firstFault = api.Fault{}
	if !slices.Equal(second, []api.Token{word("a", 0, 1, 1), word("b", 2, 1, 3)}) {
		t.Errorf("the second answer's words changed with the first's: %v", second)
	}
	if !sameFault(secondFault, fault(api.ErrComment, "$)", 4, 1, 5)) {
		t.Errorf("the second answer's fault changed with the first's: %+v", secondFault)
	}
	checkScan(t, text, second, secondFault)
}

// 1.7: no word that is told lies in the text's own bytes.
func TestScanWordsAreNotTheTexts(t *testing.T) {
	for _, text := range []string{"a bcd $) c", "a $( x$)y", "a $( b"} {
		l, f := Scan(text)
		for _, w := range l {
			if lies(w.Text, text) {
				t.Errorf("Scan(%q): the word %q is a piece of the text", text, w.Text)
			}
		}
		if f == nil || lies(f.Text, text) {
			t.Errorf("Scan(%q): the fault %+v is missing, or its text is a piece of the text", text, f)
		}
	}
}

func lies(part, whole string) bool {
	from := uintptr(unsafe.Pointer(unsafe.StringData(whole)))
	at := uintptr(unsafe.Pointer(unsafe.StringData(part)))
	return part != "" && at >= from && at < from+uintptr(len(whole))
}
