package letters

import (
	"math/big"
	"slices"
	"strings"
	"testing"

	"lemma/api"
)

// value works out what digits and a last letter say, by numbers without end.
func value(digits string, last byte) int {
	sum := new(big.Int)
	for _, d := range []byte(digits) {
		sum.Mul(sum, big.NewInt(5))
		sum.Add(sum, big.NewInt(int64(strings.IndexByte(" UVWXY", d))))
	}
	sum.Mul(sum, big.NewInt(20))
	sum.Add(sum, big.NewInt(int64(strings.IndexByte("ABCDEFGHIJKLMNOPQRST", last))))
	if sum.BitLen() > 50 {
		return top
	}
	return int(sum.Int64())
}

// model reads words a second way: all as one text, whole runs of digits at once, and the words are found by their bytes' places.
func model(list []api.Token) ([]api.Code, bool) {
	var all string
	var owner []api.Token
	for _, w := range list {
		all += w.Text
		owner = append(owner, slices.Repeat([]api.Token{w}, len(w.Text))...)
	}
	var codes []api.Code
	for from := 0; from < len(all); {
		to := from
		for to < len(all) && strings.IndexByte("UVWXY", all[to]) >= 0 {
			to++
		}
		if to == len(all) {
			return codes, true
		}
		if c := all[to]; c >= 'A' && c <= 'T' {
			codes = append(codes, api.Code{N: value(all[from:to], c), At: owner[to]})
		} else {
			if to > from {
				codes = append(codes, api.Code{N: bad, At: owner[to]})
			}
			n, _ := ofByte(int(c))
			codes = append(codes, api.Code{N: n, At: owner[to]})
		}
		from = to + 1
	}
	return codes, false
}

// agree holds Decode against the model, word by word.
func agree(t *testing.T, list []api.Token) {
	t.Helper()
	codes, cut := Decode(list)
	want, wantCut := model(list)
	if !slices.Equal(codes, want) || cut != wantCut {
		t.Fatalf("P9.1: Decode(%s) = %s, %v, want %s, %v", brief(list), brief(codes), cut, brief(want), wantCut)
	}
}

// short calls f with every text of at most so many of these bytes.
func short(alphabet string, most int, f func(string)) {
	var grow func(string)
	grow = func(s string) {
		f(s)
		if len(s) == most {
			return
		}
		for i := range len(alphabet) {
			grow(s + alphabet[i:i+1])
		}
	}
	grow("")
}

// cuts gives a text cut into words in every way, with an empty word in each place where it is cut.
func cuts(s string) [][]string {
	if len(s) < 2 {
		return [][]string{{s}}
	}
	var all [][]string
	for _, rest := range cuts(s[1:]) {
		joined := slices.Clone(rest)
		joined[0] = s[:1] + joined[0]
		all = append(all, joined, append([]string{s[:1], ""}, rest...))
	}
	return all
}

// P9.1, P9.3: every short text of the bytes that matter, cut in every way, is read as the model says, and says the same as uncut.
func TestShortTexts(t *testing.T) {
	short("ATUYZ?a \xc3\xa9\xff", 4, func(s string) {
		whole, wholeCut := Decode(words(s))
		for _, list := range cuts(s) {
			agree(t, words(list...))
			l, cut := Decode(words(list...))
			if !slices.Equal(numbers(l), numbers(whole)) || cut != wholeCut {
				t.Fatalf("P9.3: Decode(%q) = %v, %v, uncut %v, %v", list, numbers(l), cut, numbers(whole), wholeCut)
			}
		}
	})
}

// cutAnywhere cuts a text into words by a fixed rule, some of them empty.
func (r *rule) cutAnywhere(s string) []string {
	var list []string
	for len(s) > 0 {
		n := r.below(min(len(s), 12) + 1)
		list, s = append(list, s[:n]), s[n:]
	}
	return append(list, "")
}

// long gives a text by a fixed rule: runs of digits, letters, saves, open steps, sometimes any byte.
func (r *rule) long(pieces int, wild bool) string {
	var s strings.Builder
	for range pieces {
		for range r.below(r.below(30) + 1) {
			s.WriteByte("UVWXY"[r.below(5)])
		}
		switch r.below(10) {
		case 0:
			s.WriteByte('Z')
		case 1:
			s.WriteByte('?')
		case 2:
			if wild {
				s.WriteByte(byte(r.below(256)))
			}
		case 3:
			if wild {
				s.WriteString(string(rune(r.below(0x110000))))
			}
		default:
			s.WriteByte(byte('A' + r.below(20)))
		}
	}
	return s.String()
}

// P9.1, P9.3: long texts by a fixed rule, cut anywhere, are read as the model says, and say the same as uncut and as cut byte by byte.
func TestLongTexts(t *testing.T) {
	r := rule(1)
	for range 300 {
		s := r.long(r.below(200), true)
		list := r.cutAnywhere(s)
		agree(t, words(list...))
		whole, wholeCut := Decode(words(s))
		for _, list := range [][]string{list, strings.Split(s, ""), bytesOf(s)} {
			l, cut := Decode(words(list...))
			if !slices.Equal(numbers(l), numbers(whole)) || cut != wholeCut {
				t.Fatalf("P9.3: Decode(%s) = %s, %v, uncut %s, %v", brief(list), brief(numbers(l)), cut, brief(numbers(whole)), wholeCut)
			}
		}
	}
}

// bytesOf cuts a text byte by byte.
func bytesOf(s string) []string {
	var list []string
	for i := range len(s) {
		list = append(list, s[i:i+1])
	}
	return list
}
