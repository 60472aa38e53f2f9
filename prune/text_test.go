package prune

import (
	"strings"
	"testing"

	"lemma/api"
)

// whole takes the marks out of a text, which stand about each statement that goes.
var whole = strings.NewReplacer("‹", "", "›", "")

// marksHold holds what stays of a text without an assertion to be all that is not marked.
func marksHold(t *testing.T, label, text string) {
	t.Helper()
	b := loaded(t, whole.Replace(text))
	var stays strings.Builder
	for _, part := range strings.Split(text, "›") {
		kept, _, _ := strings.Cut(part, "‹")
		stays.WriteString(kept)
	}
	withoutIs(t, b, numberOf(t, b, label), stays.String())
	staysHold(t, b, numberOf(t, b, label))
}

// 18.2: two statements on one line: what stands between them stays, their blanks too, of every kind.
func TestOneLine(t *testing.T) {
	marksHold(t, "a", "$c w $. ‹a $a w $.› b $a w $.")
	marksHold(t, "b", "$c w $. a $a w $. ‹b $a w $.›")
	marksHold(t, "a", "$c w $.  ‹a $a w $.›\t b $a w $.\n")
	marksHold(t, "a", "$c w $. ‹a $a w $.›   ‹t $p w $= a $.›  b $a w $. ‹u $p w $= t $.› $c v $. ")
	marksHold(t, "b", "$c w $. a $a w $. \t\r\f\n ‹b $a w $.› \f\t\r\n\n c $a w $.")
	marksHold(t, "a", "$c w $.\r\n‹a $a w $.›\r\n‹t $p w $= a $.›\r\nb $a w $.\r\n")
	marksHold(t, "a", " \n$c w $.\n‹a $a w $.›\n\n‹t $p w $= a $.›\n‹u $p w $= a $.›\nb $a w $.")
}

// 18.2: statements that go over lines, and one with which the text ends.
func TestOverLines(t *testing.T) {
	marksHold(t, "t", "$c w $.\na $a w $.\n\t‹t\n\n$p  w\t$=\n  a\n$.›\n  b $a\nw $.\n")
	marksHold(t, "a", "$c w $. ‹a\n$a\nw\n$.›\n\n‹t $p w $= ( a\n) A\n$.›")
	marksHold(t, "t", "$c w $. a $a w $. u $p w $= a $. ‹t $p w\n$= u\n$.›")
}

// 18.2: comments within a statement that goes go with it; those about it stay, also such as look like statements.
func TestComments(t *testing.T) {
	marksHold(t, "a", "$( one $) $c w $. $( two $) ‹a $( three $) $a $( four $) w $( five $) $.› $( six $) b $a w $. $( seven $)")
	marksHold(t, "t", "$c w $. b $a w $. $( a $a w $. $) ‹t $( u $p w $= b $. $) $p w $= $( $. $) b $( $) $.› $( t $) c $a w $.")
	marksHold(t, "a", "$c w $. $( a $) ‹a $a w $.›\n$( of t: $)\n‹t $( a $) $p w $= $( wrong: $) no $( right: $) a $.›\n$( $)")
}

// 18.2, 18.3: a statement that stays keeps its comments, and goes by none of them: what stands in a comment names nothing.
func TestCommentsNameNothing(t *testing.T) {
	marksHold(t, "a", "$c w $. ‹a $a w $.› b $a w $. t $p w $= $( a $) b $( a $) $. u $p w $= ( b $( a $) ) $( a $) A $.")
}

// 18.2, 18.3: a scope whose assertions all go stays, with what it declares; so does an empty one.
func TestScopes(t *testing.T) {
	marksHold(t, "a", "$c w $. $v x y $. fx $f w x $. ${ fy $f w y $. e $e w x y $. $d x y $. ‹a $a w x $.› ${ $v z $. fz $f w z $. ‹t $p w y $= a $.› $} $} b $a w x $. ${ $}")
	marksHold(t, "a", "$c w $. ${ ${ ‹a $a w $.› $} ‹t $p w $= a $.› $} ${ b $a w $. ‹u $p w $= t b $.› $}")
	marksHold(t, "t", "$c w $. e $e w $. ‹t $p w $= e $.› f $e w $. b $a w $. ${ ‹u $p w $= t $.› $}")
}

// 18.2, 18.3: what is declared stays, though nothing that stays has it: symbols keep their numbers, hypotheses their labels, pairs their places.
func TestDeclarations(t *testing.T) {
	marksHold(t, "a", "$c w $. $c only $. $v x $. fx $f w x $. ‹a $a w only x $.› $c more $. $v y $. fy $f w y $. $d x y $. ‹t $p w x $= fx a $.› b $a w more y x $.")
	b := loaded(t, "$c w $. $c only $. a $a only $. $c more $.")
	text, _ := Without(b, 0)
	left := loaded(t, text)
	for name, want := range map[string]int{"w": 0, "only": 1, "more": 2} {
		if n, found := left.Number(name); n != want || !found {
			t.Errorf("18.3: the number of %s: %d, %t, want %d", name, n, found, want)
		}
	}
}

// 18.2: all assertions may go, and nothing is left but what they stood in.
func TestAllGo(t *testing.T) {
	marksHold(t, "a", "$c w $. ‹a $a w $.› ‹t $p w $= a $.› ‹u $p w $= t $.›")
	marksHold(t, "a", "$c w $.\n${\n‹t $p w $= u $.›\n$}\n‹u $p w $= a $.›\n‹a $a w $.›\n")
}

// filled gives so many bytes made of one text, and of blanks where it would be broken off.
func filled(with string, many int) string {
	full := strings.Repeat(with, many/len(with))
	return full + strings.Repeat(" ", many-len(full))
}

// 18.2: a text of as many bytes as may be, and one of as many words.
func TestGreatTexts(t *testing.T) {
	const ahead, behind = "$c w $. ", "‹a $a w $.› b $a w $. ‹t $p w $= ( a b ) B $.› u $p w $= b $."
	room := api.MaxText - len(whole.Replace(ahead+behind))
	for _, fill := range []string{" ", "\n", "$( x $) "} {
		marksHold(t, "a", ahead+filled(fill, room)+behind)
		marksHold(t, "a", ahead+behind+" "+filled(fill, room-1))
	}
	const first, last = "$c w $. ‹a $a w $.› u $p w $= b", " $. b $a w $. ‹t $p w $= a $.›"
	words := api.MaxTokens - len(strings.Fields(first+last))
	marksHold(t, "a", first+strings.Repeat(" b", words)+last)
}
