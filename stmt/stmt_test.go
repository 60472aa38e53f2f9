package stmt

import (
	"errors"
	"reflect"
	"slices"
	"strings"
	"testing"
	"unsafe"

	"lemma/api"
	"lemma/scan"
)

// keywords of the nine kinds, the number 0 is no kind's.
var keywords = []string{"", "$c", "$v", "$f", "$e", "$d", "$a", "$p", "${", "$}"}

// ahead is what stands ahead of the words of each kind that has some.
var ahead = map[int]string{
	api.StConst: "$c", api.StVar: "$v", api.StDist: "$d",
	api.StFloat: "l $f", api.StEss: "l $e", api.StAxiom: "l $a", api.StTheorem: "l $p",
}

// strange are keywords that begin no statement.
var strange = []string{"$", "$$", "$x", "$C", "$cc", "$c$.", "$.$.", "$(x", "$)x", "$[", "$]", "$1"}

// short says a statement in short: kind, label, words, "=" and proof; ".." if it is broken off.
func short(s api.Stmt) string {
	w := []string{string(rune('0' + s.Kind))}
	if s.Label.Text != "" {
		w = append(w, s.Label.Text+":")
	}
	w = append(w, texts(s.Words)...)
	if s.Proving {
		w = append(w, "=")
	}
	w = append(w, texts(s.Proof)...)
	if s.End == (api.Token{}) {
		w = append(w, "..")
	}
	return strings.Join(w, " ")
}

func shorts(l []api.Stmt) string {
	var out []string
	for _, s := range l {
		out = append(out, short(s))
	}
	return strings.Join(out, "; ")
}

func texts(words []api.Token) []string {
	var out []string
	for _, w := range words {
		out = append(out, w.Text)
	}
	return out
}

// row is a text, its statements in short, and its fault: the error, the word, and the number of its first byte.
type row struct {
	text string
	want string
	code api.Errno
	word string
	off  int
}

func (x row) check(t *testing.T) {
	t.Helper()
	l, f := Read(x.text)
	if shorts(l) != x.want {
		t.Errorf("P6.1: Read(%.60q): %.80s, want %.80s", x.text, shorts(l), x.want)
	}
	checkTokens(t, x.text, l)
	if x.code == api.OK {
		if f != nil {
			t.Errorf("P6.1: Read(%.60q): fault %+v, want none", x.text, f)
		}
		return
	}
	at, _ := scan.Place(x.text, x.off)
	want := api.Fault{At: at, Text: x.word, Code: x.code}
	if f == nil || *f != want {
		t.Errorf("P6.1: Read(%.60q): fault %+v, want %+v", x.text, f, want)
	}
}

func checkRows(t *testing.T, rows ...row) {
	t.Helper()
	for _, x := range rows {
		x.check(t)
	}
}

// checkTokens holds every token against the text at its place, and what each kind has against what may be there.
func checkTokens(t *testing.T, text string, l []api.Stmt) {
	t.Helper()
	next := 0
	for i, s := range l {
		labelled := s.Kind == api.StFloat || s.Kind == api.StEss || s.Kind == api.StAxiom || s.Kind == api.StTheorem
		bracket := s.Kind == api.StOpen || s.Kind == api.StClose
		whole := s.End != api.Token{}
		var order []api.Token
		if labelled {
			order = append(order, s.Label)
		}
		order = append(order, s.Key)
		order = slices.Concat(order, s.Words, s.Proof)
		if whole && !bracket {
			order = append(order, s.End)
		}
		for _, w := range order {
			at, ok := scan.Place(text, w.At.Off)
			if !ok || at != w.At || w.Text == "" || w.At.Off < next || !strings.HasPrefix(text[w.At.Off:], w.Text) {
				t.Errorf("P6.1: Read(%.60q): statement %d: the token %+v is not the text's", text, i, w)
				return
			}
			next = w.At.Off + len(w.Text)
		}
		switch {
		case s.Kind < 1 || s.Kind > 9 || s.Key.Text != keywords[s.Kind]:
			t.Errorf("P6.1: Read(%.60q): statement %d: kind %d with the keyword %q", text, i, s.Kind, s.Key.Text)
		case !labelled && s.Label != (api.Token{}):
			t.Errorf("P6.1: Read(%.60q): statement %d has the label %+v", text, i, s.Label)
		case bracket && s.End != s.Key:
			t.Errorf("P6.1: Read(%.60q): statement %d ends with %+v, not with itself", text, i, s.End)
		case !bracket && whole && s.End.Text != "$.":
			t.Errorf("P6.1: Read(%.60q): statement %d ends with %+v", text, i, s.End)
		case !whole && i+1 < len(l):
			t.Errorf("P6.1: Read(%.60q): statement %d is broken off, and is not the last", text, i)
		case (s.Proving || len(s.Proof) > 0) && s.Kind != api.StTheorem, len(s.Proof) > 0 && !s.Proving:
			t.Errorf("P6.1: Read(%.60q): statement %d: Proving %v, Proof %v", text, i, s.Proving, s.Proof)
		}
	}
}

// P6.1: the chapter's examples.
func TestReadExamples(t *testing.T) {
	checkRows(t,
		row{text: ""},
		row{text: "$c wff $. ${ $v x $. $}", want: "1 wff; 8; 2 x; 9"},
		row{text: "w $f wff x $.", want: "3 w: wff x"},
		row{text: "t $p wff x $= w $.", want: "7 t: wff x = w"},
		row{"$c a $. b c", "1 a", api.ErrKeyword, "c", 10},
		row{"$c a $. b", "1 a", api.ErrEnd, "", 9},
		row{"e $e $.", "4 e: ..", api.ErrForm, "$.", 5},
		row{"a $a w $= w $.", "6 a: w ..", api.ErrKeyword, "$=", 7},
		row{"$v x $( y $)", "2 x ..", api.ErrEnd, "", 12},
		row{"$v x $( y", "2 x ..", api.ErrOpen, "$(", 5},
	)
}

// P6.1: the chapter's hard places.
func TestReadHardPlaces(t *testing.T) {
	checkRows(t,
		row{"a b $c", "", api.ErrKeyword, "b", 2},
		row{"a $c", "", api.ErrLabel, "$c", 2},
		row{"$f", "", api.ErrLabel, "$f", 0},
		row{"a $x", "", api.ErrKeyword, "$x", 2},
		row{"$d x $.", "5 x ..", api.ErrForm, "$.", 5},
		row{"a $f w x y", "3 a: w x ..", api.ErrForm, "y", 9},
		row{"a $p w $.", "7 a: w ..", api.ErrForm, "$.", 7},
		row{"a $p $= b $.", "7 a: ..", api.ErrForm, "$=", 5},
		row{"a $p w $= $= $.", "7 a: w = ..", api.ErrKeyword, "$=", 10},
		row{text: "a $p w $= $.", want: "7 a: w ="},
		row{"$c", "1 ..", api.ErrEnd, "", 2},
		row{"a", "", api.ErrEnd, "", 1},
		row{"$c a b\x00 $.", "1 a ..", api.ErrChar, "", 6},
		row{"$c $x a\x00", "1 ..", api.ErrKeyword, "$x", 3},
		row{"$ ", "", api.ErrKeyword, "$", 0},
	)
}

// P6.1: what is told of each kind, token by token.
func TestReadWhole(t *testing.T) {
	word := func(text string, off, line, col int) api.Token {
		return api.Token{Text: text, At: api.Pos{Off: off, Line: line, Col: col}}
	}
	l, f := Read("t\t$p w\nx $= u\n$.\n${\n$d x y $. l $f w x $.")
	want := []api.Stmt{
		{Kind: api.StTheorem, Label: word("t", 0, 1, 1), Key: word("$p", 2, 1, 3), Proving: true,
			Words: []api.Token{word("w", 5, 1, 6), word("x", 7, 2, 1)}, Proof: []api.Token{word("u", 12, 2, 6)}, End: word("$.", 14, 3, 1)},
		{Kind: api.StOpen, Key: word("${", 17, 4, 1), End: word("${", 17, 4, 1)},
		{Kind: api.StDist, Key: word("$d", 20, 5, 1), Words: []api.Token{word("x", 23, 5, 4), word("y", 25, 5, 6)}, End: word("$.", 27, 5, 8)},
		{Kind: api.StFloat, Label: word("l", 30, 5, 11), Key: word("$f", 32, 5, 13), Words: []api.Token{word("w", 35, 5, 16), word("x", 37, 5, 18)}, End: word("$.", 39, 5, 20)},
	}
	if f != nil || !reflect.DeepEqual(l, want) {
		t.Errorf("P6.1: %+v, %+v, want %+v", l, f, want)
	}
}

// P6.1: every keyword between statements, with a label that waits and without one.
func TestReadKeywordsBetween(t *testing.T) {
	for _, before := range []struct{ text, want string }{{"", ""}, {"$c a $. ", "1 a"}, {"$} ", "9"}} {
		told := func(s string) string { return strings.TrimPrefix(before.want+"; "+s, "; ") }
		off := len(before.text)
		for _, key := range []string{"$c", "$v", "$d"} {
			kind := string(rune('0' + slices.Index(keywords, key)))
			checkRows(t,
				row{before.text + key, told(kind + " .."), api.ErrEnd, "", off + 2},
				row{before.text + "l " + key, before.want, api.ErrLabel, key, off + 2})
		}
		for _, key := range []string{"$f", "$e", "$a", "$p"} {
			kind := string(rune('0' + slices.Index(keywords, key)))
			checkRows(t,
				row{before.text + key, before.want, api.ErrLabel, key, off},
				row{before.text + "l " + key, told(kind + " l: .."), api.ErrEnd, "", off + 4})
		}
		for _, key := range []string{"${", "$}"} {
			kind := string(rune('0' + slices.Index(keywords, key)))
			checkRows(t,
				row{text: before.text + key, want: told(kind)},
				row{before.text + "l " + key, before.want, api.ErrLabel, key, off + 2})
		}
		for _, key := range append([]string{"$=", "$."}, strange...) {
			checkRows(t,
				row{before.text + key, before.want, api.ErrKeyword, key, off},
				row{before.text + "l " + key, before.want, api.ErrKeyword, key, off + 2})
		}
		checkRows(t,
			row{before.text + "l", before.want, api.ErrEnd, "", off + 1},
			row{before.text + "l m", before.want, api.ErrKeyword, "m", off + 2},
			row{before.text + "l l $a w $.", before.want, api.ErrKeyword, "l", off + 2})
	}
}

// P6.1: every keyword within a statement of each kind, "$=" and "$." aside.
func TestReadKeywordsWithin(t *testing.T) {
	others := append(slices.Clone(keywords[1:]), strange...)
	for kind, begin := range ahead {
		head := short(api.Stmt{Kind: kind, Label: label(kind)})
		for _, words := range []string{"", " w", " w x"} {
			bodies := []string{words}
			if kind == api.StTheorem && words != "" {
				bodies = append(bodies, words+" $=", words+" $= u", words+" $= u v")
			}
			for _, body := range bodies {
				told := strings.TrimSuffix(head, " ..") + strings.ReplaceAll(body, "$=", "=") + " .."
				for _, key := range others {
					row{begin + body + " " + key + " y \x00", told, api.ErrKeyword, key, len(begin+body) + 1}.check(t)
				}
			}
		}
	}
}

func label(kind int) api.Token {
	if strings.HasPrefix(ahead[kind], "l ") {
		return api.Token{Text: "l"}
	}
	return api.Token{}
}

// P6.1: "$=" in what is no theorem, too early, and a second time.
func TestReadProofMark(t *testing.T) {
	for kind, begin := range ahead {
		head := strings.TrimSuffix(short(api.Stmt{Kind: kind, Label: label(kind)}), " ..")
		if kind != api.StTheorem {
			checkRows(t,
				row{begin + " $= $.", head + " ..", api.ErrKeyword, "$=", len(begin) + 1},
				row{begin + " w $= $.", head + " w ..", api.ErrKeyword, "$=", len(begin) + 3},
				row{begin + " w x $= u $.", head + " w x ..", api.ErrKeyword, "$=", len(begin) + 5})
		}
	}
	checkRows(t,
		row{"l $p $=", "7 l: ..", api.ErrForm, "$=", 5},
		row{"l $p w $= $=", "7 l: w = ..", api.ErrKeyword, "$=", 10},
		row{"l $p w $= u $= $.", "7 l: w = u ..", api.ErrKeyword, "$=", 12},
		row{"l $p w $=", "7 l: w = ..", api.ErrEnd, "", 9},
		row{"l $p w $= u v", "7 l: w = u v ..", api.ErrEnd, "", 13},
		row{text: "l $p w $= $.", want: "7 l: w ="},
		row{text: "l $p w $= ? u ( ) = $. m $a w $.", want: "7 l: w = ? u ( ) =; 6 m: w"})
}

// P6.1: how many words each kind has: "$." comes too early, or a word is one too many.
func TestReadHowMany(t *testing.T) {
	least := map[int]int{api.StFloat: 2, api.StDist: 2}
	most := map[int]int{api.StFloat: 2, api.StDist: api.MaxVars}
	for kind, begin := range ahead {
		head := strings.TrimSuffix(short(api.Stmt{Kind: kind, Label: label(kind)}), " ..")
		proof, proved := "", ""
		if kind == api.StTheorem {
			proof, proved = " $=", " ="
		}
		for n := range 40 {
			body := strings.Repeat(" x", n)
			text := begin + body + proof + " $."
			top, limited := most[kind]
			switch {
			case limited && n > top:
				row{text, head + strings.Repeat(" x", top) + " ..", api.ErrForm, "x", len(begin) + 2*top + 1}.check(t)
			case n >= max(1, least[kind]):
				row{text: text, want: head + body + proved}.check(t)
			case kind == api.StTheorem:
				row{text, head + body + " ..", api.ErrForm, "$=", len(begin+body) + 1}.check(t)
			default:
				row{text, head + body + " ..", api.ErrForm, "$.", len(begin+body) + 1}.check(t)
			}
		}
		if _, limited := most[kind]; !limited {
			body := strings.Repeat(" x", 5*api.MaxExpr)
			row{text: begin + body + proof + " $.", want: head + body + proved}.check(t)
		}
	}
	checkRows(t,
		row{"l $p $.", "7 l: ..", api.ErrForm, "$.", 5},
		row{"l $p w x $.", "7 l: w x ..", api.ErrForm, "$.", 9})
}

// P6.1: what a word looks like is not looked at here, but for its first byte.
func TestReadAnyWords(t *testing.T) {
	long := strings.Repeat("z", 3*api.MaxWord)
	for _, w := range []string{"(", "a$", "a$b", "x$(", "x$)", "~", "!", long, "?", "a.b"} {
		checkRows(t,
			row{text: "$c " + w + " $.", want: "1 " + w},
			row{text: w + " $a " + w + " $.", want: "6 " + w + ": " + w},
			row{text: w + " $p " + w + " $= " + w + " $.", want: "7 " + w + ": " + w + " = " + w})
	}
	checkRows(t, row{text: "a $f a a $. a $f a a $. $} $} ${ $c a a $.", want: "3 a: a a; 3 a: a a; 9; 9; 8; 1 a a"})
}

// P6.1: statements broken off where the text ends, and ErrEnd's place behind the last byte.
func TestReadEnd(t *testing.T) {
	for kind, begin := range ahead {
		head := strings.TrimSuffix(short(api.Stmt{Kind: kind, Label: label(kind)}), " ..")
		for _, tail := range []string{"", " ", "\n", "\n\n \t", " $( c $)", "\n$( c\n$)\n"} {
			checkRows(t,
				row{begin + tail, head + " ..", api.ErrEnd, "", len(begin + tail)},
				row{begin + " w" + tail, head + " w ..", api.ErrEnd, "", len(begin+tail) + 2},
				row{"${\n" + begin + "\nw x" + tail, "8; " + head + " w x ..", api.ErrEnd, "", len(begin+tail) + 7})
		}
	}
	for _, tail := range []string{"", " ", "\n", "\r\n", "$( a $)\n"} {
		row{"$c a $.\nlabel " + tail, "1 a", api.ErrEnd, "", 14 + len(tail)}.check(t)
		row{text: "$c a $.\n" + tail, want: "1 a"}.check(t)
	}
	_, f := Read("a\n\n $( $)\nb $a\n  ")
	if want := (api.Fault{At: api.Pos{Off: 10, Line: 4, Col: 1}, Text: "b", Code: api.ErrKeyword}); f == nil || *f != want {
		t.Errorf("P6.1: ErrKeyword: %+v, want %+v", f, want)
	}
	_, f = Read("a\n\n $( $)\n$a\n  ")
	if want := (api.Fault{At: api.Pos{Off: 15, Line: 5, Col: 3}, Code: api.ErrEnd}); f == nil || *f != want {
		t.Errorf("P6.1: ErrEnd: %+v, want %+v", f, want)
	}
}

// P6.1: scan's faults within a statement and between them; a fault of stmt ahead of one of scan comes first.
func TestReadScanFaults(t *testing.T) {
	checkRows(t,
		row{"\x00", "", api.ErrChar, "", 0},
		row{"$c a $. \x00", "1 a", api.ErrChar, "", 8},
		row{"$c a $.\x00", "1 a ..", api.ErrChar, "", 7},
		row{"l \x00", "", api.ErrChar, "", 2},
		row{"l $p w $= u\x7f $.", "7 l: w = ..", api.ErrChar, "", 11},
		row{"l $p w $= u \x7f $.", "7 l: w = u ..", api.ErrChar, "", 12},
		row{"$c a $) $.", "1 a ..", api.ErrComment, "$)", 5},
		row{"$c a $. $)", "1 a", api.ErrComment, "$)", 8},
		row{"l $) $c", "", api.ErrComment, "$)", 2},
		row{"$c a $( b $( $) $.", "1 a ..", api.ErrComment, "$(", 10},
		row{"$c a $. $( b", "1 a", api.ErrOpen, "$(", 8},
		row{"l $( b", "", api.ErrOpen, "$(", 2},
		row{"l $a $( b $) c $( d", "6 l: c ..", api.ErrOpen, "$(", 15},
		row{"$c $. \x00", "1 ..", api.ErrForm, "$.", 3},
		row{"a b \x00", "", api.ErrKeyword, "b", 2},
		row{"a $c $( b", "", api.ErrLabel, "$c", 2},
		row{"$f $)", "", api.ErrLabel, "$f", 0},
		row{"$d x $. $)", "5 x ..", api.ErrForm, "$.", 5},
		row{"l $( x $) m \xff", "", api.ErrKeyword, "m", 10},
	)
}

// P6.1: a text that is too long, by bytes and by words; and a fault of stmt ahead of that.
func TestReadTooLong(t *testing.T) {
	bytes := "$c a $. $v x" + strings.Repeat(" ", api.MaxText-12)
	many := "$v" + strings.Repeat(" x", api.MaxTokens-1)
	told := "2" + strings.Repeat(" x", api.MaxTokens-1) + " .."
	checkRows(t,
		row{bytes, "1 a; 2 x ..", api.ErrEnd, "", api.MaxText},
		row{bytes + " ", "1 a; 2 x ..", api.ErrText, "", api.MaxText},
		row{bytes[:api.MaxText-2] + "$.", "1 a; 2 x", api.OK, "", 0},
		row{bytes[:api.MaxText-2] + "$. ", "1 a; 2 x ..", api.ErrText, "", api.MaxText},
		row{many, told, api.ErrEnd, "", len(many)},
		row{many + " $.", told, api.ErrText, "$.", len(many) + 1},
		row{strings.Repeat("${ ", api.MaxTokens) + "l", strings.Repeat("8; ", api.MaxTokens-1) + "8", api.ErrText, "l", 3 * api.MaxTokens},
		row{"$x" + many, "", api.ErrKeyword, "$x$v", 0},
		row{"$c $c" + bytes, "1 ..", api.ErrKeyword, "$c$c", 3},
	)
	full := strings.Repeat("x ", api.MaxTokens-2)
	row{"$v " + full + "$.", "2 " + strings.TrimSuffix(full, " "), api.OK, "", 0}.check(t)
}

// R12: the fault wraps its error.
func TestFaultIsItsError(t *testing.T) {
	for text, code := range map[string]api.Errno{"a b": api.ErrKeyword, "$f": api.ErrLabel, "$c $.": api.ErrForm, "$c": api.ErrEnd, "\x00": api.ErrChar} {
		if _, f := Read(text); f == nil || !errors.Is(f, code) {
			t.Errorf("P6.1: Read(%q): %v, want %v", text, f, code)
		}
	}
}

// scribble writes over every list of the statements, up to the end of its spare room, one list at a time, and tells whether another list changed with it.
func scribble(l []api.Stmt) bool {
	var lists []*[]api.Token
	for i := range l {
		lists = append(lists, &l[i].Words, &l[i].Proof)
	}
	for _, mine := range lists {
		var before [][]api.Token
		for _, other := range lists {
			before = append(before, slices.Clone((*other)[:cap(*other)]))
		}
		all := (*mine)[:cap(*mine)]
		for i := range all {
			all[i] = api.Token{Text: "scribbled"}
		}
		for i, other := range lists {
			if other != mine && !slices.Equal(before[i], (*other)[:cap(*other)]) {
				return true
			}
		}
	}
	return false
}

// R11: what Read tells is new memory, list by list.
func TestReadMemory(t *testing.T) {
	for _, text := range []string{
		"$c a b c $. ${ $v x y $. l $f a x $. t $p a x $= l l l $. $} m $a a $.",
		"t $p a x $= l l l $. u $p a $= v $= $.",
		"t $p a x $= l l l $. $d x y",
	} {
		first, firstFault := Read(text)
		second, secondFault := Read(text)
		want := shorts(second)
		if scribble(first) {
			t.Errorf("R11: Read(%q): two lists of one answer share memory", text)
		}
		all := first[:cap(first)]
		for i := range all {
			all[i] = api.Stmt{Kind: 9}
		}
		if firstFault != nil {
			if firstFault == secondFault {
				t.Errorf("R11: Read(%q): one fault for two answers", text)
			}
			*firstFault = api.Fault{}
		}
		third, thirdFault := Read(text)
		if shorts(second) != want || !reflect.DeepEqual(second, third) || !reflect.DeepEqual(secondFault, thirdFault) {
			t.Errorf("R11: Read(%q): an answer changed with another", text)
		}
	}
}

// R11: no word that is told lies in the text's own bytes.
func TestReadWordsAreNotTheTexts(t *testing.T) {
	for _, text := range []string{"$c abc d $. t $p w $= uvw $. ${ $}", "$c abc $( x", "label other", "$d one $."} {
		l, f := Read(text)
		var told []api.Token
		for _, s := range l {
			told = slices.Concat(told, []api.Token{s.Label, s.Key, s.End}, s.Words, s.Proof)
		}
		if f != nil {
			told = append(told, api.Token{Text: f.Text})
		}
		for _, w := range told {
			if lies(w.Text, text) {
				t.Errorf("R11: Read(%q): %q is a piece of the text", text, w.Text)
			}
		}
	}
}

func lies(part, whole string) bool {
	from := uintptr(unsafe.Pointer(unsafe.StringData(whole)))
	at := uintptr(unsafe.Pointer(unsafe.StringData(part)))
	return part != "" && at >= from && at < from+uintptr(len(whole))
}
