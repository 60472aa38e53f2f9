package proof

import (
	"slices"
	"strings"
	"testing"

	"lemma/api"
	"lemma/scan"
	"lemma/stmt"
)

// scanned gives the words of a text that was written.
func scanned(t *testing.T, text string) []api.Token {
	t.Helper()
	list, fault := scan.Scan(text)
	if fault != nil {
		t.Fatalf("P10.4: %.300q: %v", text, *fault)
	}
	return list
}

// proofOf gives the words of a text that was written, where a theorem has it as its proof, and the token behind them.
func proofOf(t *testing.T, text string) ([]api.Token, api.Token) {
	t.Helper()
	l, fault := stmt.Read("t $p w $=\n" + text + " $.")
	if fault != nil || len(l) != 1 {
		t.Fatalf("P10.4: %.300q: %v", text, fault)
	}
	return l[0].Proof, l[0].End
}

func texts(list []api.Token) []string {
	var l []string
	for _, w := range list {
		l = append(l, w.Text)
	}
	return l
}

// checkPlainBack holds that labels which are written are read back.
func checkPlainBack(t *testing.T, labels []string) {
	t.Helper()
	text := mustPlain(t, labels)
	list, end := proofOf(t, text)
	for _, p := range []api.Proof{Parse(scanned(t, text), end), Parse(list, end)} {
		if p.Form != api.FormPlain || !slices.Equal(texts(p.Labels), labels) || len(p.Codes) > 0 || p.Broken || p.Cut || p.End != end {
			t.Fatalf("P10.4: Parse of Plain(%.300q) = %.300v", labels, p)
		}
	}
}

// checkPackedBack holds that labels and codes which are written are read back.
func checkPackedBack(t *testing.T, labels []string, codes []int) {
	t.Helper()
	text := mustPack(t, labels, codes)
	list, end := proofOf(t, text)
	for _, p := range []api.Proof{Parse(scanned(t, text), end), Parse(list, end)} {
		if p.Form != api.FormPacked || !slices.Equal(texts(p.Labels), labels) || !slices.Equal(numbers(p.Codes), codes) || p.Broken || p.Cut || p.End != end {
			t.Fatalf("P10.4: Parse of Packed(%.300q, %.300v) = %.300v", labels, codes, p)
		}
	}
}

// P10.4: short lists, written and read back.
func TestShortBack(t *testing.T) {
	eachList([]string{"a", "ax-1", "?", "A", long(32), "Z", "."}, 4, func(labels []string) {
		checkPlainBack(t, labels)
	})
	eachList([]string{"a", "A", long(32)}, 3, func(labels []string) {
		eachList([]int{0, 19, 20, 620, save, open}, 3, func(codes []int) {
			checkPackedBack(t, labels, codes)
		})
	})
}

// P10.4: long lists by a fixed rule, so that numbers are parted by lines' ends in all ways.
func TestLongBack(t *testing.T) {
	r := rule(2)
	for range 1000 {
		labels, codes := r.labels(r.below(80), r.below(api.MaxWord)+1), r.codes(r.below(300))
		checkPlainBack(t, labels)
		checkPackedBack(t, labels, codes)
	}
	for n := 60; n < 80; n++ {
		for _, last := range []int{19, 20, 120, 619, 620, 1<<50 - 1} {
			checkPackedBack(t, nil, append(make([]int, n), last, save))
		}
	}
}

// P10.4: the code whose letters a line's end parts is told with the word in which it ends.
func TestBackTellsWords(t *testing.T) {
	list := scanned(t, mustPack(t, []string{"a"}, append(make([]int, 71), 20, 1)))
	p := Parse(list, behind)
	if len(list) != 5 || len(p.Codes) != 73 {
		t.Fatalf("P10.4: %v", p)
	}
	for i, c := range p.Codes {
		word := 3
		if i >= 71 {
			word = 4
		}
		if c.At != list[word] {
			t.Errorf("P10.4: the code %d at %v, want %v", i, c.At, list[word])
		}
	}
}

// cuts gives a text cut into words in every way.
func cuts(s string) [][]string {
	if len(s) < 2 {
		return [][]string{{s}}
	}
	var all [][]string
	for _, rest := range cuts(s[1:]) {
		joined := slices.Clone(rest)
		joined[0] = s[:1] + joined[0]
		all = append(all, joined, append([]string{s[:1]}, rest...))
	}
	return all
}

// checkCut holds that letters in these words say what they say in one, each with the word that holds its last byte.
func checkCut(t *testing.T, ahead, parts []string) {
	t.Helper()
	whole := Parse(tokens(append(slices.Clone(ahead), strings.Join(parts, ""))...), behind)
	list := tokens(slices.Concat(ahead, parts)...)
	p := Parse(list, behind)
	if p.Form != whole.Form || !slices.Equal(p.Labels, whole.Labels) || !slices.Equal(numbers(p.Codes), numbers(whole.Codes)) || p.Broken != whole.Broken || p.Cut != whole.Cut || p.End != whole.End {
		t.Fatalf("P10.5: Parse(%.300q) = %.300v, in one word %.300v", texts(list), p, whole)
	}
	if want := ends(list[len(ahead):]); !slices.Equal(told(p.Codes), want) {
		t.Fatalf("P10.5: Parse(%.300q): codes at %.300v, want %.300v", texts(list), told(p.Codes), want)
	}
}

// told gives the words with which codes are told.
func told(l []api.Code) []api.Token {
	var list []api.Token
	for _, c := range l {
		list = append(list, c.At)
	}
	return list
}

// ends gives the words in which codes end, by the bytes alone: each but a digit ends one, and one more where it breaks digits off.
func ends(list []api.Token) []api.Token {
	var l []api.Token
	within := false
	for _, w := range list {
		for _, c := range []byte(w.Text) {
			digit := c >= 'U' && c <= 'Y'
			if within && !digit && (c < 'A' || c > 'T') {
				l = append(l, w)
			}
			if !digit {
				l = append(l, w)
			}
			within = digit
		}
	}
	return l
}

// P10.5: short letters, some that are none, cut in every way.
func TestLettersCut(t *testing.T) {
	eachList([]string{"A", "T", "U", "Y", "Z", "?", "a", ")"}, 4, func(l []string) {
		for _, parts := range cuts(strings.Join(l, "")) {
			checkCut(t, []string{"(", ")"}, parts)
			checkCut(t, []string{"(", "a", "b", ")"}, parts)
		}
	})
}

// P10.5: long letters cut by a fixed rule, empty words among them, and byte by byte; what was written is parted by its lines already.
func TestLongLettersCut(t *testing.T) {
	r := rule(3)
	for range 500 {
		labels, codes := r.labels(r.below(10), api.MaxWord), r.codes(r.below(100))
		list := texts(scanned(t, mustPack(t, labels, codes)))
		ahead, said := list[:len(labels)+2], strings.Join(list[len(labels)+2:], "")
		checkCut(t, ahead, list[len(labels)+2:])
		checkCut(t, ahead, strings.Split(said, ""))
		var parts []string
		for left := said; left != ""; {
			n := r.below(min(len(left), 9) + 1)
			parts, left = append(parts, left[:n]), left[n:]
		}
		checkCut(t, ahead, parts)
		if p := Parse(tokens(slices.Concat(ahead, parts)...), behind); p.Cut || !slices.Equal(numbers(p.Codes), codes) {
			t.Fatalf("P10.5: %.300q: %.300v, want %.300v", parts, numbers(p.Codes), codes)
		}
	}
}
