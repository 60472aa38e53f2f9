package stmt

import (
	"regexp"
	"slices"
	"strings"
	"testing"

	"lemma/api"
	"lemma/scan"
)

// modelRead answers what Read should, by P6.1 read another way: not word by word, but by runs of plain words and what stands behind each run.
func modelRead(text string) ([]api.Stmt, *api.Fault) {
	words, scanned := scan.Scan(text)
	var told []api.Stmt
	for len(words) > 0 {
		s, rest, f := modelFirst(words)
		if s.Kind != 0 {
			told = append(told, s)
		}
		if f != nil {
			return told, f
		}
		if rest == nil {
			return told, modelEnd(text, scanned)
		}
		words = rest
	}
	return told, scanned
}

func modelEnd(text string, scanned *api.Fault) *api.Fault {
	if scanned != nil {
		return scanned
	}
	lines := strings.Split(text, "\n")
	return &api.Fault{At: api.Pos{Off: len(text), Line: len(lines), Col: len(lines[len(lines)-1]) + 1}, Code: api.ErrEnd}
}

func modelFault(w api.Token, code api.Errno) *api.Fault {
	return &api.Fault{At: w.At, Text: w.Text, Code: code}
}

// modelFirst gives the first statement of some words, and the words behind it; nil, without a fault: it does not end.
func modelFirst(words []api.Token) (api.Stmt, []api.Token, *api.Fault) {
	none := api.Stmt{}
	var s api.Stmt
	front := modelRun(words)
	if front > 1 {
		return none, nil, modelFault(words[1], api.ErrKeyword)
	}
	if front == len(words) {
		return none, nil, nil
	}
	s.Key = words[front]
	s.Kind = max(slices.Index(keywords, s.Key.Text), 0)
	if s.Kind == 0 {
		return none, nil, modelFault(s.Key, api.ErrKeyword)
	}
	if strings.Contains("$f $e $a $p", s.Key.Text) != (front == 1) {
		return none, nil, modelFault(s.Key, api.ErrLabel)
	}
	if front == 1 {
		s.Label = words[0]
	}
	rest := append([]api.Token{}, words[front+1:]...)
	if s.Key.Text == "${" || s.Key.Text == "$}" {
		s.End = s.Key
		return s, rest, nil
	}
	return modelBody(s, rest)
}

func modelBody(s api.Stmt, rest []api.Token) (api.Stmt, []api.Token, *api.Fault) {
	n := modelRun(rest)
	if most := map[string]int{"$f": 2, "$d": 32}[s.Key.Text]; most > 0 && n > most {
		s.Words = rest[:most]
		return s, nil, modelFault(rest[most], api.ErrForm)
	}
	s.Words, rest = rest[:n], rest[n:]
	if s.Key.Text == "$p" && len(rest) > 0 && rest[0].Text == "$=" {
		if n == 0 {
			return s, nil, modelFault(rest[0], api.ErrForm)
		}
		m := modelRun(rest[1:])
		s.Proving = true
		s.Proof, rest = rest[1:1+m], rest[1+m:]
	}
	switch {
	case len(rest) == 0:
		return s, nil, nil
	case rest[0].Text != "$.":
		return s, nil, modelFault(rest[0], api.ErrKeyword)
	case n < 1, n < 2 && strings.Contains("$f $d", s.Key.Text), s.Key.Text == "$p" && !s.Proving:
		return s, nil, modelFault(rest[0], api.ErrForm)
	}
	s.End = rest[0]
	return s, rest[1:], nil
}

// modelRun gives how many plain words the list begins with.
func modelRun(words []api.Token) int {
	n := slices.IndexFunc(words, func(w api.Token) bool { return w.Text[0] == '$' })
	if n < 0 {
		return len(words)
	}
	return n
}

// equal holds statements against each other, places and all.
func equal(a, b []api.Stmt) bool {
	return slices.EqualFunc(a, b, func(s, u api.Stmt) bool {
		return s.Kind == u.Kind && s.Label == u.Label && s.Key == u.Key && s.Proving == u.Proving && s.End == u.End &&
			slices.Equal(s.Words, u.Words) && slices.Equal(s.Proof, u.Proof)
	})
}

// same holds the Kinds, Labels, Words and Proofs of statements against each other.
func same(a, b []api.Stmt) bool {
	return slices.EqualFunc(a, b, func(s, u api.Stmt) bool {
		return s.Kind == u.Kind && s.Label.Text == u.Label.Text && slices.Equal(texts(s.Words), texts(u.Words)) && slices.Equal(texts(s.Proof), texts(u.Proof))
	})
}

func sameFault(f, g *api.Fault) bool {
	if f == nil || g == nil {
		return f == g
	}
	return *f == *g
}

// eachText hands on every text of at most so many of the pieces.
func eachText(most int, pieces []string, yield func(string)) {
	var grow func(text string, left int)
	grow = func(text string, left int) {
		yield(text)
		if left == 0 {
			return
		}
		for _, p := range pieces {
			grow(text+p, left-1)
		}
	}
	grow("", most)
}

// eachShort hands on all short texts of several choices of words.
func eachShort(yield func(string)) {
	eachText(4, []string{"a ", "b\n", "$c ", "$v ", "$f ", "$e ", "$d ", "$a ", "$p ", "${ ", "$} ", "$= ", "$. ", "$ "}, yield)
	eachText(8, []string{"a ", "$p ", "$= ", "$.\n"}, yield)
	eachText(8, []string{"a ", "$f ", "$d ", "$. "}, yield)
	eachText(6, []string{"a ", "$e ", "$. ", "$( ", "$) ", "\x00"}, yield)
	eachText(6, []string{"a ", "$c\n", "$. ", "${", " ", "\n"}, yield)
}

// P6.1: all short texts are answered as the model answers them.
func TestReadAgainstModel(t *testing.T) {
	eachShort(func(text string) {
		want, wantFault := modelRead(text)
		l, f := Read(text)
		if !equal(l, want) || !sameFault(f, wantFault) {
			t.Fatalf("P6.1: Read(%q): %s, %+v, want %s, %+v", text, shorts(l), f, shorts(want), wantFault)
		}
	})
}

// R5: what stands behind the word that offends changes neither the fault nor what is told.
func TestReadFirstFault(t *testing.T) {
	eachText(4, []string{"a ", "$c ", "$f ", "$p ", "$d ", "${ ", "$= ", "$. ", "$x "}, func(text string) {
		l, f := Read(text)
		if f == nil || f.Text == "" {
			return
		}
		upTo := text[:f.At.Off+len(f.Text)]
		for _, tail := range []string{"", " $.", " a", "\n\x00", " $( x", " $)"} {
			if m, g := Read(upTo + tail); !equal(l, m) || !sameFault(f, g) {
				t.Fatalf("R5: Read(%q): %s, %+v, but Read(%q): %s, %+v", text, shorts(l), f, upTo+tail, shorts(m), g)
			}
		}
	})
}

// P6.3: what is read without a fault is printed, read back the same, and printed the same again.
func TestThereAndBack(t *testing.T) {
	seen := 0
	eachShort(func(text string) {
		l, f := Read(text)
		if f != nil {
			return
		}
		seen++
		printed, code := Print(l)
		back, g := Read(printed)
		again, _ := Print(back)
		if code != api.OK || g != nil || !same(l, back) || again != printed {
			t.Fatalf("P6.3: %q printed: %q, %d; read: %s, %+v; printed again: %q", text, printed, code, shorts(back), g, again)
		}
	})
	if seen < 100 {
		t.Errorf("P6.3: only %d texts without a fault", seen)
	}
}

// P6.3: a text with a statement that is broken off is not printed, but where nothing is missing save its end.
func TestBrokenOffIsPrintedIfWhole(t *testing.T) {
	for text, want := range map[string]string{"$c a": "$c a $.\n", "l $p a": "l $p a $= $.\n", "l $p a $= u $=": "l $p a $= u $.\n", "$c": "", "$d x $.": "", "l $f a": ""} {
		l, _ := Read(text)
		printed, code := Print(l)
		if printed != want || (code == api.OK) != (want != "") {
			t.Errorf("P6.2: %q printed: %q, %d, want %q", text, printed, code, want)
		}
	}
}

// P6.4: other blanks, and comments between words, change nothing but places.
func TestBlanksAndComments(t *testing.T) {
	eachText(5, []string{"a ", "$c ", "$p ", "$= ", "$. ", "${ "}, func(text string) {
		parts := strings.Fields(text)
		l, f := Read(strings.Join(parts, " "))
		for _, gap := range []string{"  ", "\t", "\n", "\f", "\r\n", " $( $) ", "\n$( a $c $. $= $)\n", " $( ${ $) $( $} $) "} {
			other := gap + strings.Join(parts, gap) + gap
			m, g := Read(other)
			if !same(l, m) || (f == nil) != (g == nil) || f != nil && (f.Code != g.Code || f.Text != g.Text) {
				t.Fatalf("P6.4: Read(%q): %s, %+v, but Read(%q): %s, %+v", text, shorts(l), f, other, shorts(m), g)
			}
			if shorts(l) != shorts(m) {
				t.Fatalf("P6.4: %s, but %s", shorts(l), shorts(m))
			}
		}
	})
}

// P6.5: two texts without a fault, one behind the other, are the statements of both, at their places in the whole.
func TestTwoTexts(t *testing.T) {
	var fine []string
	eachText(5, []string{"a ", "$c ", "$f ", "$p ", "$= ", "$. ", "${\n", "$( $) "}, func(text string) {
		text = strings.TrimSuffix(text, " ")
		if _, f := Read(text); f == nil {
			fine = append(fine, text)
		}
	})
	if len(fine) < 30 {
		t.Fatalf("P6.5: only %d texts", len(fine))
	}
	step := len(fine)/100 + 1
	for i := 0; i < len(fine); i += step {
		for _, b := range fine {
			a := fine[i]
			first, _ := Read(a)
			second, _ := Read(b)
			whole := a + " " + b
			both, f := Read(whole)
			if f != nil || !same(both, slices.Concat(first, second)) {
				t.Fatalf("P6.5: Read(%q): %s, %+v", whole, shorts(both), f)
			}
			checkTokens(t, whole, both)
		}
	}
}

// plainWord is a second reading of what a plain word is.
var plainWord = regexp.MustCompile(`\A[!-#%-~][!-~]*\z`)

// modelPrint answers what Print should: each line is made first, and held against the form of a line of its kind.
func modelPrint(l []api.Stmt) (string, api.Errno) {
	var out strings.Builder
	for _, s := range l {
		line, ok := modelLine(s)
		if !ok {
			return "", api.ErrForm
		}
		out.WriteString(line + "\n")
	}
	if text := out.String(); len(text) <= 65536 && len(strings.Fields(text)) <= 16384 {
		return text, api.OK
	}
	return "", api.ErrText
}

// lineForms: what the kinds and numbers of words of a line look like: l a label, w a word, p a word of a proof.
var lineForms = regexp.MustCompile(`\A(1w+|2w+|l3ww|l4w+|5w{2,32}|l6w+|l7w+p*|8|9)\z`)

func modelLine(s api.Stmt) (string, bool) {
	form, parts := "", []string{}
	if s.Label.Text != "" {
		form, parts = "l", append(parts, s.Label.Text)
	}
	if s.Kind < 1 || s.Kind > 9 {
		return "", false
	}
	form += string(rune('0'+s.Kind)) + strings.Repeat("w", len(s.Words)) + strings.Repeat("p", len(s.Proof))
	plains := slices.Concat(parts, texts(s.Words), texts(s.Proof))
	for _, w := range plains {
		if !plainWord.MatchString(w) {
			return "", false
		}
	}
	parts = slices.Concat(parts, keywords[s.Kind:s.Kind+1], texts(s.Words))
	if s.Kind == api.StTheorem {
		parts = slices.Concat(parts, []string{"$="}, texts(s.Proof))
	}
	if s.Kind < api.StOpen {
		parts = append(parts, "$.")
	}
	return strings.Join(parts, " "), lineForms.MatchString(form)
}

// stock gives statements of all kinds and some that are none, with labels, words and proofs of all sorts: many of them are no statements.
func stock() []api.Stmt {
	lists := [][]api.Token{nil, tokens("a"), tokens("b$", "("), tokens("a", "$."), tokens("a", "b", "c"), tokens("a", ""), tokens("a b", "c")}
	var all []api.Stmt
	for kind := -1; kind <= 11; kind++ {
		for _, name := range []string{"", "l", "$l", "l\n"} {
			for _, body := range lists {
				for _, proof := range lists {
					all = append(all, api.Stmt{Kind: kind, Label: api.Token{Text: name}, Words: body, Proof: proof})
				}
			}
		}
	}
	return all
}

// P6.2, P6.3: statements of all sorts, alone and two by two, are printed as the model prints them, and read back.
func TestPrintAgainstModel(t *testing.T) {
	look := func(l ...api.Stmt) bool {
		want, wantCode := modelPrint(l)
		text, code := Print(l)
		if text != want || code != wantCode {
			t.Fatalf("P6.2: Print(%v) = %q, %d, want %q, %d", l, text, code, want, wantCode)
		}
		if back, f := Read(text); code == api.OK && (f != nil || !same(back, l)) {
			t.Fatalf("P6.3: Print(%v) = %q, read back: %s, %+v", l, text, shorts(back), f)
		}
		return code == api.OK
	}
	look()
	var some []api.Stmt
	fine := 0
	for i, s := range stock() {
		if look(s) {
			fine++
			some = append(some, s)
		} else if i%40 == 0 {
			some = append(some, s)
		}
	}
	if fine < 20 {
		t.Errorf("P6.2: only %d statements that are printed", fine)
	}
	for _, s := range some {
		for _, u := range some {
			look(s, u)
		}
	}
}
