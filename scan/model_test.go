package scan

import (
	"slices"
	"strings"
	"testing"

	"lemma/api"
)

// model answers what Scan should, by promise 1.1 read another way: first the byte is found at which the text may not go on, then the complete words ahead of it are looked at.
func model(text string) ([]api.Token, *api.Fault) {
	end, stop := modelEnd(text)
	var told []api.Token
	var open *api.Token
	for _, w := range modelWords(text, end, stop == nil) {
		bracket := strings.Contains(w.Text, "$(") || strings.Contains(w.Text, "$)")
		switch {
		case open == nil && w.Text == "$(":
			open = &w
		case open != nil && w.Text == "$)":
			open = nil
		case open == nil && w.Text == "$)", open != nil && bracket:
			return told, &api.Fault{At: w.At, Text: w.Text, Code: api.ErrComment}
		case open == nil && len(told) == api.MaxTokens:
			return told, &api.Fault{At: w.At, Text: w.Text, Code: api.ErrText}
		case open == nil:
			told = append(told, w)
		}
	}
	if stop == nil && open != nil {
		stop = &api.Fault{At: open.At, Text: "$(", Code: api.ErrOpen}
	}
	return told, stop
}

func modelEnd(text string) (int, *api.Fault) {
	for i := range len(text) {
		b := text[i]
		p, _ := Place(text, i)
		if i == api.MaxText {
			return i, &api.Fault{At: p, Code: api.ErrText}
		}
		if !(b == 9 || b == 10 || b == 12 || b == 13 || b >= 32 && b <= 126) {
			return i, &api.Fault{At: p, Code: api.ErrChar}
		}
	}
	return len(text), nil
}

// modelWords: the words of the text's first end bytes; the last byte ends a word only if the text itself ends there.
func modelWords(text string, end int, whole bool) []api.Token {
	var out []api.Token
	for i := 0; i < end; i++ {
		if text[i] <= 32 {
			continue
		}
		n := strings.IndexFunc(text[i:end], func(r rune) bool { return r <= 32 })
		if n < 0 && !whole {
			break
		}
		if n < 0 {
			n = end - i
		}
		p, _ := Place(text, i)
		out = append(out, api.Token{Text: text[i : i+n], At: p})
		i += n
	}
	return out
}

// eachText hands on every text of at most so many of the pieces.
func eachText(pieces []string, most int, yield func(string)) {
	var grow func(text string, left int)
	grow = func(text string, left int) {
		yield(text)
		if left == 0 {
			return
		}
		for _, p := range pieces {
			grow(text+p, left-1)
		}
	}
	grow("", most)
}

// 1.1: all short texts of bytes, and of words, are answered as the model answers them.
func TestScanAgainstModel(t *testing.T) {
	look := func(text string) {
		words, f := model(text)
		got, g := Scan(text)
		if !slices.Equal(got, words) || !sameFault(f, g) {
			t.Errorf("Scan(%q) = %v, %+v, want %v, %+v", text, got, g, words, f)
		}
	}
	eachText([]string{"a", " ", "\n", "$", "(", ")", "\x00"}, 6, look)
	eachText([]string{"$(", "$)", " ", "\n", "b", "\xff"}, 6, look)
	eachText([]string{"$( ", "$) ", "x ", "x$( ", "\n", "\x7f"}, 6, look)
}

// 1.5: of all short texts, each word and each fault is just the text's bytes at its place, and no word touches the next.
func TestTokensAreTheText(t *testing.T) {
	eachText([]string{"ab", " ", "\n", "$( ", " $)", "\x00"}, 6, func(text string) {
		l, f := Scan(text)
		next := 0
		for _, w := range l {
			end := w.At.Off + len(w.Text)
			if w.At.Off < next || end > len(text) || text[w.At.Off:end] != w.Text || w.Text == "" || !placed(text, w.At) {
				t.Errorf("Scan(%q): %v", text, l)
				return
			}
			next = end + 1
		}
		if f != nil && (!strings.HasPrefix(text[f.At.Off:], f.Text) || !placed(text, f.At) || (f.Text == "") != (f.Code == api.ErrChar)) {
			t.Errorf("Scan(%q): fault %+v", text, f)
		}
	})
}

func placed(text string, at api.Pos) bool {
	p, ok := Place(text, at.Off)
	return ok && p == at
}

// The words are an iterator: it ends when the range over it is broken off.
func TestWordsBrokenOff(t *testing.T) {
	for _, text := range []string{"a b c", "a\x00", "a"} {
		n := 0
		for range words(text) {
			n++
			break
		}
		if n != 1 {
			t.Errorf("%q: %d words ahead of the break", text, n)
		}
	}
}
