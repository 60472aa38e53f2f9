package proof

import (
	"math"
	"slices"
	"strings"
	"testing"

	"lemma/api"
	"lemma/letters"
)

// long gives a label of so many bytes.
func long(n int) string { return strings.Repeat("y", n) }

// many gives a label so many times.
func many(label string, n int) []string { return slices.Repeat([]string{label}, n) }

// mustPlain writes labels that may be written.
func mustPlain(t *testing.T, labels []string) string {
	t.Helper()
	text, code := Plain(labels)
	if code != api.OK {
		t.Fatalf("P10.2: Plain(%.300q): %d", labels, code)
	}
	return text
}

// mustPack writes labels and codes that may be written.
func mustPack(t *testing.T, labels []string, codes []int) string {
	t.Helper()
	text, code := Packed(labels, codes)
	if code != api.OK {
		t.Fatalf("P10.3: Packed(%.300q, %.300v): %d", labels, codes, code)
	}
	return text
}

func checkPlainText(t *testing.T, want string, labels ...string) {
	t.Helper()
	if text := mustPlain(t, labels); text != want {
		t.Errorf("P10.2: Plain(%.300q) = %.300q, want %.300q", labels, text, want)
	}
}

func checkPackedText(t *testing.T, want string, labels []string, codes ...int) {
	t.Helper()
	if text := mustPack(t, labels, codes); text != want {
		t.Errorf("P10.3: Packed(%.300q, %.300v) = %.300q, want %.300q", labels, codes, text, want)
	}
}

// P10.2: the chapter's examples, and few labels.
func TestPlain(t *testing.T) {
	checkPlainText(t, "")
	checkPlainText(t, "", []string{}...)
	checkPlainText(t, "wph wps ?", "wph", "wps", "?")
	checkPlainText(t, "?", "?")
	checkPlainText(t, "? ? ?", "?", "?", "?")
	checkPlainText(t, "a", "a")
	checkPlainText(t, "a a", "a", "a")
	checkPlainText(t, "ax-1.b_C - . _ 0 Z", "ax-1.b_C", "-", ".", "_", "0", "Z")
	checkPlainText(t, strings.Repeat("x ", 35)+"x\nx x x x", many("x", 40)...)
	checkPlainText(t, strings.Repeat("? ", 35)+"?\n? ? ? ?", many("?", 40)...)
}

// P10.2: a line of just 72 bytes is full, one of 71 has no room for a blank and a word; one byte less than 72 is not filled up where the next word would not fit.
func TestPlainLines(t *testing.T) {
	pair := long(32) + " " + long(32) // 65 bytes
	checkPlainText(t, pair+" aaaaaa", long(32), long(32), "aaaaaa")
	checkPlainText(t, pair+"\naaaaaaa", long(32), long(32), "aaaaaaa")
	checkPlainText(t, pair+" aaaaaa\nb", long(32), long(32), "aaaaaa", "b")
	checkPlainText(t, pair+" aaaaa\nb", long(32), long(32), "aaaaa", "b")
	checkPlainText(t, pair+" aaaa b", long(32), long(32), "aaaa", "b")
	checkPlainText(t, pair+" aaaa\nbb", long(32), long(32), "aaaa", "bb")
	checkPlainText(t, pair+" aaaa b\nc", long(32), long(32), "aaaa", "b", "c")
	checkPlainText(t, pair+" aaaaaa\n"+pair+" aaaaaa\n"+pair, long(32), long(32), "aaaaaa", long(32), long(32), "aaaaaa", long(32), long(32))
	checkPlainText(t, pair+"\n"+long(32), long(32), long(32), long(32))
	checkPlainText(t, pair+"\n"+pair, many(long(32), 4)...)
	checkPlainText(t, strings.Repeat("x ", 35)+"x", many("x", 36)...)
	checkPlainText(t, strings.Repeat("x ", 35)+"x\nx", many("x", 37)...)
	checkPlainText(t, strings.Repeat("x ", 35)+"x\n"+strings.Repeat("x ", 35)+"x", many("x", 72)...)
	checkPlainText(t, "aa "+strings.Repeat("x ", 34)+"x", append([]string{"aa"}, many("x", 35)...)...)
	checkPlainText(t, "aa "+strings.Repeat("x ", 34)+"x\nx", append([]string{"aa"}, many("x", 36)...)...)
	checkPlainText(t, "aaa "+strings.Repeat("x ", 33)+"x\nx", append([]string{"aaa"}, many("x", 35)...)...)
	checkPlainText(t, strings.Repeat("x ", 35)+"x\n"+long(32), append(many("x", 36), long(32))...)
}

// checkLines holds that words stand in lines: all of them in order, one blank between or a line's end, no line too long, and none ended ahead of a word that it had room for. There is just one such text.
func checkLines(t *testing.T, text string, words []string) {
	t.Helper()
	if len(words) == 0 {
		if text != "" {
			t.Fatalf("P10.2: no words: %q", text)
		}
		return
	}
	var all []string
	last := api.MaxLine
	for _, line := range strings.Split(text, "\n") {
		list := strings.Split(line, " ")
		if len(line) > api.MaxLine || slices.Contains(list, "") || last+1+len(list[0]) <= api.MaxLine {
			t.Fatalf("P10.2: %.300q: the line %q, the one ahead of %d bytes", text, line, last)
		}
		all, last = append(all, list...), len(line)
	}
	if !slices.Equal(all, words) {
		t.Fatalf("P10.2: %.300q, want the words %.300q", text, words)
	}
}

// checkPackedLines holds that a packed text is the bracket in lines, and then its letters, all lines but the last just full.
func checkPackedLines(t *testing.T, text string, labels []string, codes []int) {
	t.Helper()
	want, _ := letters.Print(codes)
	// Behind the bracket's end stands nothing that could be taken for one.
	end := strings.LastIndex(text, ")") + 1
	checkLines(t, text[:end], slices.Concat([]string{"("}, labels, []string{")"}))
	if want == "" {
		if text[end:] != "" {
			t.Fatalf("P10.3: no letters: %.300q", text)
		}
		return
	}
	lines := strings.Split(text[end:], "\n")
	if lines[0] != "" || len(lines) < 2 || strings.Join(lines, "") != want {
		t.Fatalf("P10.3: %.300q, want the letters %.300q", text, want)
	}
	for i, line := range lines[1:] {
		if len(line) == 0 || len(line) > api.MaxLine || len(line) < api.MaxLine && i < len(lines)-2 {
			t.Fatalf("P10.3: %.300q: a line of %d letters", text, len(line))
		}
	}
}

// P10.2, P10.3: all lengths of three labels; and of two behind labels that leave few bytes of a line, or just none.
func TestLinesOfAllLengths(t *testing.T) {
	check := func(labels ...string) {
		t.Helper()
		checkLines(t, mustPlain(t, labels), labels)
		checkPackedLines(t, mustPack(t, labels, nil), labels, nil)
	}
	for a := 1; a <= api.MaxWord; a++ {
		for b := 1; b <= api.MaxWord; b++ {
			for c := 1; c <= api.MaxWord; c++ {
				check(long(a), long(b), long(c))
			}
			for ahead := 30; ahead < 37; ahead++ {
				check(append(many("x", ahead), long(a), long(b))...)
			}
		}
	}
	for n := range 300 {
		for a := 1; a <= api.MaxWord; a++ {
			check(many(long(a), n)...)
		}
	}
}

// rule gives numbers by a fixed rule.
type rule uint64

func (r *rule) below(n int) int {
	*r = *r*6364136223846793005 + 1442695040888963407
	return int(uint64(*r)>>33) % n
}

// label gives a label's name of up to so many bytes.
func (r *rule) label(most int) string {
	const bytes = "abcdefghijklmnopqrstuvwxyzABCDEFGHIJKLMNOPQRSTUVWXYZ0123456789.-_"
	var s strings.Builder
	for range r.below(most) + 1 {
		s.WriteByte(bytes[r.below(len(bytes))])
	}
	return s.String()
}

func (r *rule) labels(n, most int) []string {
	var l []string
	for range n {
		l = append(l, r.label(most))
	}
	return l
}

// codes gives numbers of all lengths, saves and open steps.
func (r *rule) codes(n int) []int {
	var l []int
	for range n {
		switch r.below(8) {
		case 0:
			l = append(l, save)
		case 1:
			l = append(l, open)
		case 2:
			l = append(l, (r.below(1<<31)<<31|r.below(1<<31))>>r.below(62)&(1<<50-1))
		default:
			l = append(l, r.below(r.below(1000)+1))
		}
	}
	return l
}

// P10.2, P10.3: long texts by a fixed rule.
func TestLongLines(t *testing.T) {
	r := rule(1)
	for range 2000 {
		labels, codes := r.labels(r.below(60), r.below(api.MaxWord)+1), r.codes(r.below(200))
		checkLines(t, mustPlain(t, labels), labels)
		checkPackedLines(t, mustPack(t, labels, codes), labels, codes)
	}
	labels, codes := r.labels(100000, api.MaxWord), r.codes(100000)
	checkLines(t, mustPlain(t, labels), labels)
	checkPackedLines(t, mustPack(t, labels, codes), labels, codes)
}

// P10.3: the chapter's examples, labels and codes of which there are none, open steps among the letters.
func TestPacked(t *testing.T) {
	checkPackedText(t, "( ax-1 )\nAZUA", []string{"ax-1"}, 0, save, 20)
	checkPackedText(t, "( )", nil)
	checkPackedText(t, "( )", []string{}, []int{}...)
	checkPackedText(t, "( a )", []string{"a"})
	checkPackedText(t, "( )\nA", nil, 0)
	checkPackedText(t, "( )\n?", nil, open)
	checkPackedText(t, "( )\nZZ", nil, save, save)
	checkPackedText(t, "( a b a )\nA?ZYYTUUUA", []string{"a", "b", "a"}, 0, open, save, 619, 620)
	checkPackedText(t, "( a )\nVXWWXWUXUVVVYUXVUYUUD", []string{"a"}, 1<<50-1)
}

// P10.3: the brackets are words of the lines: what stands at a line's end, and the ")" that begins one.
func TestPackedLines(t *testing.T) {
	checkPackedText(t, "( "+strings.Repeat("x ", 34)+")", many("x", 34))
	checkPackedText(t, "( "+strings.Repeat("x ", 34)+"x\n)", many("x", 35))
	checkPackedText(t, "( "+strings.Repeat("x ", 34)+"x\n)\nA", many("x", 35), 0)
	checkPackedText(t, "( "+strings.Repeat("x ", 34)+"x\nx )\nA", many("x", 36), 0)
	checkPackedText(t, "( "+long(32)+" "+long(32)+" yy )", []string{long(32), long(32), "yy"})
	checkPackedText(t, "( "+long(32)+" "+long(32)+" yyy\n)", []string{long(32), long(32), "yyy"})
	checkPackedText(t, "( "+long(32)+" "+long(32)+" yyyy\n)", []string{long(32), long(32), "yyyy"})
	checkPackedText(t, "( "+long(32)+" "+long(32)+"\nyyyyy )", []string{long(32), long(32), "yyyyy"})
}

// P10.3: letters are 72 to a line, wherever numbers end; the last line is what is left.
func TestPackedLetters(t *testing.T) {
	line := strings.Repeat("A", 72)
	for n, want := range map[int]string{
		0: "( a )", 1: "( a )\nA", 71: "( a )\n" + line[1:], 72: "( a )\n" + line, 73: "( a )\n" + line + "\nA",
		143: "( a )\n" + line + "\n" + line[1:], 144: "( a )\n" + line + "\n" + line, 145: "( a )\n" + line + "\n" + line + "\nA",
	} {
		checkPackedText(t, want, []string{"a"}, make([]int, n)...)
	}
	checkPackedText(t, "( )\n"+line[1:]+"U\nA", nil, append(make([]int, 71), 20)...)
	checkPackedText(t, "( )\n"+line[1:]+"U\nUA", nil, append(make([]int, 71), 120)...)
	checkPackedText(t, "( )\n"+line[2:]+"UU\nA", nil, append(make([]int, 70), 120)...)
	checkPackedText(t, "( )\n"+line+"\nZ", nil, append(make([]int, 72), save)...)
	for n := range 500 {
		checkPackedLines(t, mustPack(t, nil, make([]int, n)), nil, make([]int, n))
	}
}

// refused gives words that are no label's name, but for "?".
func refused() []string {
	l := []string{"", " ", "a b", "a ", " a", "a\n", "a\nb", "\t", "(", ")", "( )", "$", "$.", "a$", "a,b", "??", "a?", "?a", "? ", " ?", "?\n", "é", "a\xff", "\x00", long(33), long(34), long(1000)}
	for c := range 256 {
		name := c >= 'a' && c <= 'z' || c >= 'A' && c <= 'Z' || c >= '0' && c <= '9' || c == '.' || c == '-' || c == '_'
		if !name && c != '?' {
			l = append(l, string([]byte{byte(c)}))
		}
	}
	return l
}

// P10.2: a label that is neither a name nor "?" is refused wherever it stands, and nothing is told.
func TestPlainRefuses(t *testing.T) {
	for _, word := range refused() {
		for _, labels := range [][]string{{word}, {word, "a"}, {"a", word}, {"a", word, "b"}, {"?", word}, append(many("x", 1000), word), append([]string{word}, many("x", 1000)...)} {
			if text, code := Plain(labels); text != "" || code != api.ErrName {
				t.Errorf("P10.2: Plain(%.300q) = %.300q, %d, want the error %d", labels, text, code, api.ErrName)
			}
		}
	}
	checkPlainText(t, long(32), long(32))
}

// P10.3: a label that is no name is refused wherever it stands, "?" too, and ahead of any code.
func TestPackedRefusesLabels(t *testing.T) {
	for _, word := range append(refused(), "?") {
		for _, labels := range [][]string{{word}, {word, "a"}, {"a", word}, {"a", word, "b"}, append(many("x", 1000), word)} {
			for _, codes := range [][]int{nil, {0}, {0, save, open}, {bad}, {0, 1 << 50}} {
				if text, code := Packed(labels, codes); text != "" || code != api.ErrName {
					t.Errorf("P10.3: Packed(%.300q, %v) = %.300q, %d, want the error %d", labels, codes, text, code, api.ErrName)
				}
			}
		}
	}
	checkPackedText(t, "( "+long(32)+" )", []string{long(32)})
}

// P10.3: a code that letters.Print refuses is refused wherever it stands, and nothing is told.
func TestPackedRefusesCodes(t *testing.T) {
	for _, n := range []int{bad, -4, -100, math.MinInt, 1 << 50, 1<<50 + 1, math.MaxInt} {
		for _, codes := range [][]int{{n}, {n, 0}, {0, n}, {0, n, save}, {open, n}, append(make([]int, 1000), n)} {
			for _, labels := range [][]string{nil, {"a"}, many("x", 100)} {
				if text, code := Packed(labels, codes); text != "" || code != api.ErrLetters {
					t.Errorf("P10.3: Packed(%.300q, %.300v) = %.300q, %d, want the error %d", labels, codes, text, code, api.ErrLetters)
				}
			}
		}
	}
}
