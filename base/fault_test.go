package base

import (
	"errors"
	"strconv"
	"strings"
	"testing"

	"lemma/api"
	"lemma/scan"
)

// refused holds the fault of a text that ends with tail against an error at the word that stands so many bytes ahead of the text's end.
func refused(t *testing.T, text string, code api.Errno, word string, back int) {
	t.Helper()
	b, f := Load(text)
	if b != nil || f == nil {
		t.Errorf("P8.2: %q loads", clip(text))
		return
	}
	at, _ := scan.Place(text, len(text)-back)
	if f.Code != code || f.Text != word || f.At != at || !errors.Is(f, code) {
		t.Errorf("P8.2: %q: error %d at %q, %v, not %d at %q, %v", clip(text), f.Code, f.Text, f.At, code, word, at)
	}
}

// offends holds the fault of a text in which the word that offends is marked by '@' ahead of it: at it, whatever stands behind it (P8.2).
func offends(t *testing.T, head, marked string, code api.Errno) {
	t.Helper()
	ahead, behind, _ := strings.Cut(marked, "@")
	word, _, _ := strings.Cut(behind, " ")
	text := head + ahead + behind
	refused(t, text, code, word, len(behind))
	cut := head + ahead + word
	if isLabel := strings.HasPrefix(behind[len(word):], " $") && strings.Contains("feap", behind[len(word)+2:len(word)+3]); isLabel {
		cut += behind[len(word) : len(word)+3]
	}
	if code != api.ErrText {
		for _, more := range tails() {
			refused(t, cut+more, code, word, len(more)+len(cut)-len(head+ahead))
		}
	}
}

// tails are ways in which a text may go on behind a word.
func tails() []string {
	return []string{"", " ", "\n$.", "\t$= $.", " $}", " x y z", " \x00", "\r$( x", "\f$)", " ${ $c wff wff $.", " $. $c z $. z $a z", " $( $( $)", "\n" + strings.Repeat("$ ", 20000), strings.Repeat(" ", api.MaxText)}
}

// P8.2: every row of Load's table, each of its errors; @ marks the word that offends.
func TestTable(t *testing.T) {
	long := strings.Repeat("z", api.MaxWord+1)
	for _, x := range []struct {
		marked string
		code   api.Errno
	}{
		{"$c z @$} $.", api.ErrKeyword}, {"@$}", api.ErrScope}, {"${ $} @$}", api.ErrScope},
		{"${ @$c z $. $}", api.ErrConst}, {"${ @$c $.", api.ErrConst}, {"${ @$c wff", api.ErrConst}, {"${ ${ $} @$c a$b", api.ErrConst},
		{"$c @p $.", api.ErrTwice}, {"$c z @p y $.", api.ErrTwice}, {"$c @wff $.", api.ErrTwice}, {"$c z @z $.", api.ErrTwice}, {"${ $v u $. $} $c @u $.", api.ErrTwice},
		{"$c @a$b $.", api.ErrName}, {"$c z @" + long + " $.", api.ErrName}, {"$c @" + long, api.ErrName},
		{"$v @p $.", api.ErrTwice}, {"$v @wff $.", api.ErrTwice}, {"$v z @z $.", api.ErrTwice}, {"${ $v @p $.", api.ErrTwice}, {"${ $v u $. ${ $v @u $.", api.ErrTwice}, {"$v z @wff", api.ErrTwice},
		{"$v @a$b $.", api.ErrName}, {"${ $v @" + long + " $.", api.ErrName},
		{"@x#y $a wff p $.", api.ErrName}, {"@" + long + " $e wff p $.", api.ErrName}, {"@a/ $f wff p $.", api.ErrName}, {"@() $p wff p $= $.", api.ErrName}, {"@a$ $e", api.ErrName},
		{"@wp $a wff p $.", api.ErrTwice}, {"@mn $a wff p $.", api.ErrTwice}, {"@id $e wff p $.", api.ErrTwice}, {"@mp $f wff p $.", api.ErrTwice}, {"@a1 $p wff p $= $.", api.ErrTwice}, {"@wp $f zz zz zz", api.ErrTwice}, {"@wp $a", api.ErrTwice}, {"@wp $a $.", api.ErrTwice}, {"x $a wff $. @x $a wff $.", api.ErrTwice}, {"${ x $e wff $. $} @x $a p $.", api.ErrTwice},
		{"x $f @zz p $.", api.ErrSymbol}, {"x $f @p q $.", api.ErrType}, {"x $f @p zz $.", api.ErrType}, {"x $f @zz", api.ErrSymbol}, {"${ $v u $. $} x $f @u p $.", api.ErrSymbol},
		{"x $f wff @zz $.", api.ErrSymbol}, {"x $f wff @wff $.", api.ErrVar}, {"x $f wff @p $.", api.ErrFloat}, {"x $f |- @p $.", api.ErrFloat}, {"${ x $f wff @p", api.ErrFloat}, {"x $f wff @) $ $", api.ErrVar}, {"$v u $. y $f wff u $. x $f wff @u $.", api.ErrFloat},
		{"x $e @zz p $.", api.ErrSymbol}, {"x $e @p wff $.", api.ErrType}, {"$v u $. x $e @u $.", api.ErrType}, {"x $e wff p @zz $.", api.ErrSymbol}, {"$v u $. x $e wff p @u $.", api.ErrFloat}, {"$v u $. x $e wff @u zz", api.ErrFloat},
		{"x $a @zz p $.", api.ErrSymbol}, {"x $a @p $.", api.ErrType}, {"x $a wff @zz ( $", api.ErrSymbol}, {"$v u $. x $a wff p p @u u $.", api.ErrFloat}, {"${ $v u $. y $f wff u $. $} $v u $. x $a wff @u $.", api.ErrFloat}, {"${ $v u $. y $f wff u $. $} x $a wff @u $.", api.ErrSymbol},
		{"x $p @zz p $= $.", api.ErrSymbol}, {"x $p @p $= zz $.", api.ErrType}, {"x $p wff @zz $.", api.ErrSymbol}, {"$v u $. x $p wff @u $= $.", api.ErrFloat}, {"x $p |- @|-- $= ? $.", api.ErrSymbol},
		{"$d p @zz $.", api.ErrSymbol}, {"$d @zz zz $.", api.ErrSymbol}, {"$d p @( $.", api.ErrVar}, {"$d @wff wff $.", api.ErrVar}, {"$d p q @p $.", api.ErrSame}, {"$d p @p zz $.", api.ErrSame}, {"$d p @p $.", api.ErrSame}, {"$d p @zz", api.ErrSymbol}, {"${ $v u $. $} $d p @u $.", api.ErrSymbol},
		{"x $a wff ( @$", api.ErrKeyword}, {"x $f wff @$= p", api.ErrKeyword}, {"x @y $a zz", api.ErrKeyword}, {"wp @$c p $.", api.ErrLabel}, {"@$f", api.ErrLabel}, {"$d p @$.", api.ErrForm}, {"$( x @$( $)", api.ErrComment}, {"x $a wff @$) zz", api.ErrComment},
	} {
		offends(t, textM, x.marked, x.code)
	}
}

// P8.2: faults that are told of the whole text alone, and come only where no word offends.
func TestEnds(t *testing.T) {
	for _, x := range []struct {
		more string
		code api.Errno
		word string
		back int
	}{
		{"x", api.ErrEnd, "", 0}, {"wp", api.ErrEnd, "", 0}, {"x#y", api.ErrEnd, "", 0}, {"x $a wff", api.ErrEnd, "", 0}, {"x $a wff ", api.ErrEnd, "", 0}, {"x $a", api.ErrEnd, "", 0}, {"x $a zz", api.ErrSymbol, "zz", 2}, {"wp $a wff", api.ErrTwice, "wp", 9}, {"x $p wff p $= zz zz", api.ErrEnd, "", 0},
		{"${", api.ErrScope, "", 0}, {"${\n\n", api.ErrScope, "", 0}, {"${ ${ $}", api.ErrScope, "", 0}, {"${ x $a wff $.", api.ErrScope, "", 0}, {"${ x", api.ErrEnd, "", 0}, {"${ $c", api.ErrConst, "$c", 2}, {"${ $v z", api.ErrEnd, "", 0}, {"${ $v p", api.ErrTwice, "p", 1}, {"${ $( x $)", api.ErrScope, "", 0},
		{"$( x", api.ErrOpen, "$(", 4}, {"${ $( x", api.ErrOpen, "$(", 4}, {"x $a zz $( x", api.ErrSymbol, "zz", 7}, {"x $a $( zz", api.ErrOpen, "$(", 5}, {"$} $( x", api.ErrScope, "$}", 7},
		{"x\x01", api.ErrChar, "", 1}, {"x $a wff\x01 zz", api.ErrChar, "", 4}, {"x $a zz \x01", api.ErrSymbol, "zz", 4}, {"x $a zz\x01", api.ErrChar, "", 1}, {"${ \x7f", api.ErrChar, "", 1},
	} {
		refused(t, textM+x.more, x.code, x.word, x.back)
	}
	refused(t, "\x00", api.ErrChar, "", 1)
	refused(t, "x", api.ErrEnd, "", 0)
	refused(t, "$c a a $.", api.ErrTwice, "a", 4)
	refused(t, "$c a\n a $.", api.ErrTwice, "a", 4)
	full := strings.Repeat(" ", api.MaxText)
	refused(t, full+" ", api.ErrText, "", 1)
	refused(t, "${"+full, api.ErrText, "", 2)
	refused(t, "$}"+full, api.ErrScope, "$}", len(full)+2)
	if b := loaded(t, "${ $}"+full[5:]); b.Count() != 0 {
		t.Error("a text of MaxText bytes")
	}
}

// sequence gives n words, numbered, with something ahead of each and behind it.
func sequence(n int, ahead, behind string) string {
	var text strings.Builder
	for i := range n {
		text.WriteString(ahead + strconv.Itoa(i) + behind)
	}
	return text.String()
}

// P8.2: MaxSymbols, reached and passed by one.
func TestSymbolLimit(t *testing.T) {
	head := "${ $v old $. $} $v now $. $c t " + sequence(api.MaxSymbols-3, "c", " ") + "$. "
	b := loaded(t, head+"${ $v old $. x $f t old $. a $a t old c508 $. $}")
	if b.Symbols() != api.MaxSymbols || b.Name(0) != "old" || b.Name(api.MaxSymbols-1) != "c508" {
		t.Errorf("%d symbols, the last %q", b.Symbols(), b.Name(b.Symbols()-1))
	}
	for _, x := range []struct {
		marked string
		code   api.Errno
	}{
		{"$c @new $.", api.ErrMany}, {"$v @new $.", api.ErrMany}, {"$v old @new $.", api.ErrMany}, {"${ $v @new wff", api.ErrMany}, {"$c @a$ new $.", api.ErrName}, {"$v @a$ $.", api.ErrName},
		{"$c @old $.", api.ErrTwice}, {"$c @t $.", api.ErrTwice}, {"$v @now $.", api.ErrTwice}, {"$v @c0 $.", api.ErrTwice}, {"$v old @old $.", api.ErrTwice}, {"${ @$c new $.", api.ErrConst},
	} {
		offends(t, head, x.marked, x.code)
	}
	offends(t, "$c "+sequence(api.MaxSymbols-1, "c", " "), "c511 @c512 $.", api.ErrMany)
}

// P8.2: MaxLabels, reached and passed by one; hypotheses' and assertions' labels together.
func TestLabelLimit(t *testing.T) {
	head := "$c t $. $v x y $. fx $f t x $. ${ e $e t $. $} " + sequence(api.MaxLabels-2, "l", " $a t $. ")
	b := loaded(t, head)
	if b.Count() != api.MaxLabels-2 || !b.Taken("fx") || !b.Taken("e") || !b.Taken("l1021") {
		t.Errorf("%d assertions", b.Count())
	}
	for _, x := range []struct {
		marked string
		code   api.Errno
	}{
		{"@new $a t $.", api.ErrMany}, {"@new $f zz zz $.", api.ErrMany}, {"@new $e", api.ErrMany}, {"@new $p t $= $.", api.ErrMany},
		{"@e $a t $.", api.ErrTwice}, {"@fx $f t y $.", api.ErrTwice}, {"@l0 $e zz", api.ErrTwice}, {"@a/b $a t $.", api.ErrName},
	} {
		offends(t, head, x.marked, x.code)
	}
}

// P8.2: MaxDepth, reached and passed by one.
func TestDepthLimit(t *testing.T) {
	down := strings.Repeat("${ ", api.MaxDepth)
	loaded(t, down+strings.Repeat("$} ", api.MaxDepth))
	loaded(t, strings.Repeat("${ $} ", 2*api.MaxDepth))
	offends(t, down, "@${ $} zz", api.ErrScope)
	offends(t, down, "$} ${ @${", api.ErrScope)
	refused(t, down, api.ErrScope, "", 0)
	offends(t, strings.Repeat("${ ", api.MaxDepth)+strings.Repeat("$} ", api.MaxDepth), "@$}", api.ErrScope)
}

// P8.2: MaxExpr, reached and passed by one; what is too long comes ahead of all that is wrong with the word.
func TestExprLimit(t *testing.T) {
	most := "wff " + strings.Repeat("p ", api.MaxExpr-2)
	b := loaded(t, textM+"x $e "+most+"p $. y $a "+most+"q $. z $p "+most+"r $= $.")
	if a := at(t, b, 6); len(a.Frame.Goal) != api.MaxExpr || a.Frame.Goal[api.MaxExpr-1] != 7 {
		t.Errorf("a goal of %d symbols", len(a.Frame.Goal))
	}
	for _, key := range []string{"$e", "$a", "$p"} {
		offends(t, textM, "x "+key+" "+most+"p @p p $.", api.ErrTooLong)
		offends(t, textM, "x "+key+" "+most+"p @zz p $.", api.ErrTooLong)
		offends(t, textM+"$v u $. ", "x "+key+" "+most+"p @u", api.ErrTooLong)
		offends(t, textM, "x "+key+" "+most+"@zz p $.", api.ErrSymbol)
		offends(t, textM+"$v u $. ", "x "+key+" "+most+"@u p $.", api.ErrFloat)
	}
	loaded(t, textM+"x $p wff p $= "+strings.Repeat("p ", 2*api.MaxExpr)+"$.") // a proof is no expression
}

// P8.2: MaxPairs, reached and passed by one: pairs that are active already count once, those of a closed scope no more.
func TestPairLimit(t *testing.T) {
	head := "$c t $. $v " + sequence(30, "v", " ") + "$. "
	most := "$d " + sequence(23, "v", " ") + "$. "
	b := loaded(t, head+most+most+"$d v23 v24 $. $d v25 v24 v23 $. a $a t $.")
	if a := at(t, b, 0); len(a.Scope.Pairs) != 256 || len(a.Frame.Pairs) != 0 {
		t.Errorf("%d pairs", len(a.Scope.Pairs))
	}
	full := head + most + "$d v23 v24 v25 $. " // 256
	b = loaded(t, full+most+"$d v25 v23 $. ${ $d v0 v22 v7 $. $} a $a t $.")
	if a := at(t, b, 0); len(a.Scope.Pairs) != 256 {
		t.Errorf("%d pairs", len(a.Scope.Pairs))
	}
	for _, x := range []struct {
		marked string
		code   api.Errno
	}{
		{"$d v0 @v26 $.", api.ErrMany}, {"$d v0 v1 v2 @v26 zz $.", api.ErrMany}, {"$d v23 v24 @v0 v0", api.ErrMany}, {"${ $d v26 @v27 $ $", api.ErrMany},
		{"$d v26 @t $.", api.ErrVar}, {"$d v26 @zz $.", api.ErrSymbol}, {"$d v26 @v26 $.", api.ErrSame}, {"$d v0 v1 v2 @v1 $.", api.ErrSame},
	} {
		offends(t, full, x.marked, x.code)
	}
	offends(t, head, "$d "+sequence(23, "v", " ")+"@v23 $.", api.ErrMany)
	offends(t, head+most, "$d v23 v24 v0 @v1 $.", api.ErrMany) // 3 are new, then 2 more
	loaded(t, head+most+"${ $d v23 v24 v25 $. $} ${ $d v27 v28 v29 $. $} $d v0 v25 v24 $.")
	offends(t, head, "$d "+sequence(23, "v", " ")+"@zz $.", api.ErrSymbol)
}

// P8.5: scopes end what was declared in them, but names and assertions.
func TestScopes(t *testing.T) {
	b := loaded(t, "$c t u $. ${ $v x $. fx $f t x $. a $a t x $. $} $v x $. gx $f u x $. b $a u x $.")
	first, second := at(t, b, 0), at(t, b, 1)
	holds(t, first, "fx", nil, "fx", nil)
	holds(t, second, "gx", nil, "gx", nil)
	if first.Frame.Goal[1] != 2 || second.Frame.Goal[1] != 2 || b.Symbols() != 3 || second.Frame.Hyps[0].Expr[0] != 1 {
		t.Errorf("P8.5: x is %v, then %v", first.Frame, second.Frame)
	}
	b = loaded(t, textM+"$d p q $. y $a wff p $. ${ $d q p r $. e $e wff r $. z $p wff ( p -> q ) $= $. ${ $d p q $. f $e wff q $. v $a wff $. $} x $a wff p $. $} w $a wff q $. $d p q $. u $a wff ( q -> p ) $.")
	all := pairs(5, 6, 5, 7, 6, 7)
	holds(t, at(t, b, 5), "wp", nil, "wp wq wr", all[:1])
	holds(t, at(t, b, 6), "wp wq wr e", all, "wp wq wr e", all)
	holds(t, at(t, b, 7), "wq wr e f", all[2:], "wp wq wr e f", all)
	holds(t, at(t, b, 8), "wp wr e", all[1:2], "wp wq wr e", all)
	holds(t, at(t, b, 9), "wq", nil, "wp wq wr", all[:1])
	holds(t, at(t, b, 10), "wp wq", all[:1], "wp wq wr", all[:1])
}

// P8.5: a floating hypothesis ends with its scope: the variable of an outer scope has none again, and may get another.
func TestTypesEnd(t *testing.T) {
	head := "$c t u $. $v x $. ${ fx $f t x $. a $a t x $. $} "
	offends(t, head, "b $a t @x $.", api.ErrFloat)
	offends(t, head, "${ gx $f u x $. b $a t x $. $} c $a u @x $.", api.ErrFloat)
	b := loaded(t, head+"${ gx $f u x $. b $a t x $. $} hx $f t x $. c $a u x $.")
	holds(t, at(t, b, 0), "fx", nil, "fx", nil)
	holds(t, at(t, b, 1), "gx", nil, "gx", nil)
	holds(t, at(t, b, 2), "hx", nil, "hx", nil)
	for label, typ := range map[string]int{"fx": 0, "gx": 1, "hx": 0} {
		if h, found := b.Hyp(label); !found || h.Var != 2 || h.Expr[0] != typ || h.Expr[1] != 2 {
			t.Errorf("P8.5: %s is %v, %v", label, h, found)
		}
	}
}

// P8.3: an essential hypothesis of the outermost scope belongs to every later assertion, and none of the earlier ones; hypotheses come in the order of the text.
func TestOutermost(t *testing.T) {
	b := loaded(t, "$c t $. $v x y $. a $a t $. fy $f t y $. e $e t y $. fx $f t x $. b $a t $. ${ c $a t x $. $} $d y x $. d $a t x $.")
	holds(t, at(t, b, 0), "", nil, "", nil)
	holds(t, at(t, b, 1), "fy e", nil, "fy e fx", nil)
	holds(t, at(t, b, 2), "fy e fx", nil, "fy e fx", nil)
	holds(t, at(t, b, 3), "fy e fx", pairs(1, 2), "fy e fx", pairs(1, 2))
}

// The way of this layer: what is recovered is a refusal, or goes on as it came.
func TestRefusal(t *testing.T) {
	f := &api.Fault{Code: api.ErrTwice}
	if refusalOf(nil) != nil || refusalOf(f) != f {
		t.Error("a refusal is told as it is")
	}
	defer func() {
		if recover() != "another" {
			t.Error("another panic is hidden")
		}
	}()
	refusalOf("another")
}
