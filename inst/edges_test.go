package inst

import (
	"fmt"
	"strings"
	"testing"

	"lemma/api"
)

// 19.1: a variable that is mandatory only because of an essential hypothesis needs what stands for it too.
func TestVariableOfHypothesis(t *testing.T) {
	b := loaded(t, first+`${ f1 $e |- p $. f2 $e |- q $. two $p |- q $= f2 $. $}`)
	refusedIs(t, b, order("two", "id", given("q", "q", "wq")), syntax("p"))
	refusedIs(t, b, order("two", "id", given("p", "q", "wq")), syntax("q"))
	refusedIs(t, b, order("two", "id"), syntax("p"))
	buildIs(t, b, order("two", "id", given("q", "r", "wr"), given("p", "q", "wq")), "inst.1: |- q; inst.2: |- r; |- r by wq wr inst.1 inst.2 two")
}

// 19.1: a string may be empty: the type alone is proved then.
func TestEmptyString(t *testing.T) {
	b := loaded(t, withT+`no $a wff $.`)
	refusedIs(t, b, order("id", "id", given("p", "", "")), syntax("p"))
	refusedIs(t, b, order("id", "id", given("p", "", "wp")), syntax("p"))
	refusedIs(t, b, order("id", "id", given("p", "p", "no")), syntax("p"))
	buildIs(t, b, order("id", "id", given("p", "", "no")), "|- ( -> ) by no id")
	buildIs(t, b, order("t", "id", given("p", "", "no")), "inst.1: |-; |- by no inst.1 t")
	buildIs(t, b, order("dd", "id", given("p", "", "no"), given("q", "q", "wq")), "|- ( -> ( q -> ) ) by no wq dd")
	buildIs(t, b, order("dd", "id", given("p", "", "no"), given("q", "", "no")), "|- ( -> ( -> ) ) by no no dd")
}

// 19.1: a string of 199 symbols is one, one of 200 is none.
func TestLongestString(t *testing.T) {
	b := loaded(t, wrongs+`${ k $e |- p $. one $p |- p $= k $. $} ${ $v x $. fx $f |- x $. no199 $p wff ~ p $= wp wn $. $}`)
	for symbols := 190; symbols < 210; symbols++ {
		words, proof := negated(symbols, "q")
		o := order("one", "a1", given("p", words, proof))
		if symbols > 199 {
			refusedIs(t, b, o, syntax("p"))
			continue
		}
		buildIs(t, b, o, fmt.Sprintf("inst.1: |- %s; |- %s by %s inst.1 one", words, words, proof))
	}
	refusedIs(t, b, order("one", "a1", given("p", strings.Repeat("q ", 100000), "wq")), syntax("p"))
	refusedIs(t, b, order("one", "a1", given("p", strings.Repeat("zz ", 100000), "wq")), syntax("p"))
}

// 19.1: a goal or a hypothesis of 200 symbols under the strings may be, of 201 not.
func TestTooLong(t *testing.T) {
	b := loaded(t, wrongs+`${ k $e |- p $. neg $p |- ~ q $= ? $. $} gn $a |- ~ ~ p $. goal $p |- ~ ~ p $= wp gn $. ${ k2 $e |- ~ ~ p $. g $a |- q $. hyp $p |- q $= wp wq k2 g $. k3 $e |- ~ ~ q $. hyps $p |- q $= wp wq k2 k3 g2 $. $}`)
	for symbols := 190; symbols < 200; symbols++ {
		words, proof := negated(symbols, "r")
		if symbols > 197 {
			refusedIs(t, b, order("goal", "a1", given("p", words, proof)), bare(api.ErrTooLong))
			refusedIs(t, b, order("hyp", "a1", given("p", words, proof), given("q", "q", "wq")), bare(api.ErrTooLong))
			continue
		}
		buildIs(t, b, order("goal", "a1", given("p", words, proof)), fmt.Sprintf("|- ~ ~ %s by %s goal", words, proof))
		buildIs(t, b, order("hyp", "a1", given("p", words, proof), given("q", "q", "wq")), fmt.Sprintf("inst.1: |- ~ ~ %s; |- q by %s wq inst.1 hyp", words, proof))
	}
	refusedIs(t, b, order("hyps", "a1"), bare(api.ErrUnproved))
}

// 19.1: of two essential hypotheses the second alone may be too long; many long strings in one goal grow without being made.
func TestTooLongBehind(t *testing.T) {
	b := loaded(t, `$c w v n $. $v x y $. fx $f v x $. fy $f v y $. vn $a v n x $. ${ h1 $e w y $. h2 $e w `+strings.Repeat("x ", 199)+`$. t $p w y $= h1 $. $}`)
	for symbols, want := range []api.Errno{api.OK, api.OK, api.ErrTooLong, api.ErrTooLong} {
		if symbols > 0 {
			words, proof := strings.Repeat("n ", symbols-1)+"x", "fx"+strings.Repeat(" vn", symbols-1)
			o := order("t", "t", given("x", words, proof), given("y", "y", "fy"))
			if want != api.OK {
				refusedIs(t, b, o, bare(want))
			} else {
				buildIs(t, b, o, "inst.1: w y; inst.2: w"+strings.Repeat(" x", 199)+"; w y by fx fy inst.1 inst.2 t")
			}
		}
	}
	words, proof := strings.Repeat("n ", 198)+"x", "fx"+strings.Repeat(" vn", 198)
	refusedIs(t, b, order("t", "t", given("x", words, proof), given("y", words, proof)), bare(api.ErrTooLong))
}

// 19.1: variables that are not active in the target's scope have no hypothesis there.
func TestHiddenVariables(t *testing.T) {
	b := loaded(t, withT+`${ $v x $. fx $f wff x $. in $a wff ( x -> x ) $. tx $p |- ( x -> x ) $= fx id $. $} out $a wff ( p -> p ) $.`)
	x := given("p", "x", "fx")
	refusedIs(t, b, order("id", "id", x), syntax("p"))
	refusedIs(t, b, order("id", "out", x), syntax("p"))
	refusedIs(t, b, order("id", "out", given("p", "( x -> x )", "fx in")), syntax("p"))
	refusedIs(t, b, order("id", "out", given("p", "x", "wp")), syntax("p"))
	buildIs(t, b, order("id", "in", x), "|- ( x -> x ) by fx id")
	buildIs(t, b, order("id", "tx", given("p", "( x -> x )", "fx in")), "|- ( ( x -> x ) -> ( x -> x ) ) by fx in id")
	refusedIs(t, b, order("tx", "id"), syntax("x"))
	buildIs(t, b, order("tx", "id", given("x", "p", "wp")), "|- ( p -> p ) by wp tx")
	buildIs(t, b, order("tx", "mp", given("x", "( p -> q )", "wp wq wi")), "|- ( ( p -> q ) -> ( p -> q ) ) by wp wq wi tx")
}

// 19.1: a variable that is declared again keeps its name and number, whatever its type was then; the type is that of the theorem's hypothesis.
func TestVariableOfAnotherType(t *testing.T) {
	b := loaded(t, `$c w v u $. ${ $v x $. fx $f v x $. ax $a w x $. t $p w x $= fx ax $. $} ${ $v x $. gx $f u x $. it $a w $. vu $a v x $. $}`)
	refusedIs(t, b, order("t", "it", given("x", "x", "gx")), syntax("x"))
	refusedIs(t, b, order("t", "it", given("x", "x", "fx")), syntax("x"))
	buildIs(t, b, order("t", "it", given("x", "x", "gx vu")), "w x by gx vu t")
	buildIs(t, b, order("t", "ax", given("x", "x", "fx")), "w x by fx t")
}

// 19.1: of two strings for one variable the first counts; strings for names that are no variable of the theorem are passed over, whatever they are.
func TestGivensPassedOver(t *testing.T) {
	b := loaded(t, withT)
	buildIs(t, b, order("id", "id", given("p", "q", "wq"), given("p", "r", "zz"), given("p", "zz", "?")), "|- ( q -> q ) by wq id")
	refusedIs(t, b, order("id", "id", given("p", "q", "wr"), given("p", "q", "wq")), syntax("p"))
	refusedIs(t, b, order("id", "id", given("p", "zz", "wq"), given("p", "q", "wq")), syntax("p"))
	refusedIs(t, b, order("id", "id", given("p", strings.Repeat("q ", 200), "wq"), given("p", "q", "wq")), syntax("p"))
	refusedIs(t, b, order("id", "id", given("p", "", ""), given("p", "q", "wq")), syntax("p"))
	l := []api.Given{given("", "", ""), given("zz", "zz", "zz"), given("q", "$", "?"), given("wff", "wff", "wp"), given("(", "q", "wq"), given("wp", "q", "wq"), given("P", "q", "wq"), given("p ", "q", "wq"), given("r", strings.Repeat("q ", 300), "")}
	refusedIs(t, b, order("id", "id", l...), syntax("p"))
	buildIs(t, b, order("id", "id", append(l, given("p", "r", "wr"))...), "|- ( r -> r ) by wr id")
	refusedIs(t, b, order("id", "id", given("p ", "r", "wr")), syntax("p"))
}

// 19.1: words that are no symbols, and proofs that are none.
func TestWrongStrings(t *testing.T) {
	b := loaded(t, withT)
	for _, g := range []api.Given{
		{}, {Var: "p"}, {Var: "p", Words: []string{""}, Proof: []string{"wq"}}, {Var: "p", Words: []string{"q "}, Proof: []string{"wq"}}, {Var: "p", Words: []string{"( q -> r )"}, Proof: []string{"wq", "wr", "wi"}}, {Var: "p", Words: []string{"q"}, Proof: []string{"wq "}},
		{Var: "p", Words: []string{"q"}, Proof: []string{""}}, {Var: "p", Words: []string{"q"}, Proof: []string{"wq", ""}}, given("p", "wq", "wq"), given("p", "wff q", "wq"), given("p", "?", "wq"), given("p", "q $)", "wq"), given("p", "q q", "wq wq"), given("p", "q", "?"), given("p", "q", "wq ?"), given("p", "q", "? wq"), given("p", "q", "zz"), given("p", "q", "wq wq"), given("p", "q", "wi"),
		given("p", "( q -> q )", "( wi ) A"), given("p", "q", "( wq ) A"), given("p", "q", "( )"), given("p", "q", "("), given("p", "q", "wq )"), given("p", "q", "q"), given("p", "p", "h"), given("p", "( p -> p )", "wp id"), given("p", "p", "mn"),
	} {
		refusedIs(t, b, order("id", "id", g), syntax("p"))
		refusedIs(t, b, order("t", "mp", g), syntax("p"))
	}
}

// 19.1: the target may stand ahead of the theorem: all assertions may be used, the hypotheses and pairs are the target's.
func TestTargetAhead(t *testing.T) {
	b := loaded(t, withT+`wn $a wff ( p -> ( p -> p ) ) $.`)
	p := given("p", "( r -> ( r -> r ) )", "wr wn")
	buildIs(t, b, order("id", "wi", p), "|- ( ( r -> ( r -> r ) ) -> ( r -> ( r -> r ) ) ) by wr wn id")
	buildIs(t, b, order("id", "a1", given("p", "( q -> q )", "wq v2")), "|- ( ( q -> q ) -> ( q -> q ) ) by wq v2 id")
	buildIs(t, b, order("id", "id", given("p", "( q -> q )", "wq v2")), "|- ( ( q -> q ) -> ( q -> q ) ) by wq v2 id")
	refusedIs(t, b, order("dd", "v2", p, given("q", "q", "wq")), distinct("p", "q"))
	refusedIs(t, b, order("dd", "t", p, given("q", "q", "wq")), distinct("p", "q"))
	buildIs(t, b, order("dd", "t", given("p", "( p -> ( p -> p ) )", "wp wn"), given("q", "q", "wq")), "|- ( ( p -> ( p -> p ) ) -> ( q -> ( p -> ( p -> p ) ) ) ) by wp wn wq dd")
}

// 19.1: a pair with a variable on both sides is broken, whatever pairs the target has; a constant on both sides is nothing.
func TestVariableOnBothSides(t *testing.T) {
	b := loaded(t, examples+`$d p q r $. wc $a wff ( -> ) $. all $a |- p $.`)
	for _, v := range []string{"p", "q", "r"} {
		refusedIs(t, b, order("dd", "all", given("p", v, "w"+v), given("q", v, "w"+v)), distinct("p", "q"))
		refusedIs(t, b, order("dd", "all", given("p", v, "w"+v), given("q", "( p -> ( q -> r ) )", "wp wq wr wi wi")), distinct("p", "q"))
	}
	buildIs(t, b, order("dd", "all", given("p", "( -> )", "wc"), given("q", "( -> )", "wc")), "|- ( ( -> ) -> ( ( -> ) -> ( -> ) ) ) by wc wc dd")
	buildIs(t, b, order("dd", "wi", given("p", "( -> )", "wc"), given("q", "q", "wq")), "|- ( ( -> ) -> ( q -> ( -> ) ) ) by wc wq dd")
	buildIs(t, b, order("dd", "all", given("p", "( r -> q )", "wr wq wi"), given("q", "p", "wp")), "|- ( ( r -> q ) -> ( p -> ( r -> q ) ) ) by wr wq wi wp dd")
}

// 19.1: a pair that stands in the theorem's scope, but of which a variable is not mandatory, asks for nothing.
func TestPairThatIsNotMandatory(t *testing.T) {
	b := loaded(t, first+`${ $d p q $. one $p |- ( p -> p ) $= wp id $. $} ${ $d q r $. $d p r $. dd $p |- ( q -> ( r -> q ) ) $= wq wr a1 $. $}`)
	buildIs(t, b, order("one", "id", given("p", "( p -> q )", "wp wq wi")), "|- ( ( p -> q ) -> ( p -> q ) ) by wp wq wi one")
	refusedIs(t, b, order("dd", "id", given("q", "q", "wq"), given("r", "r", "wr")), distinct("q", "r"))
}

// 19.1, 19.6: labels that the base has are passed over, wherever and as what they stand.
func TestTakenLabels(t *testing.T) {
	b := loaded(t, `$c w v $. $v x inst.4 $. fx $f v x $. inst.2 $a w $. ${ $v y $. inst.3 $f v y $. inst.5 $e w y $. inst.7 $p w $= ? $. $}
inst.01 $a w $. inst.0 $a w $. Inst.1 $a w $. inst.10 $a w $. ${ a $e w x $. b $e w $. c $e w x x $. d $e w x $. e $e w $. f $e w x x x $. t $p w $= b $. $} ${ h $e w x $. u $p w x $= h $. $}`)
	buildIs(t, b, order("t", "inst.2", given("x", "x", "fx")), "inst.1: w x; inst.4: w; inst.6: w x x; inst.8: w x; inst.9: w; inst.11: w x x x; w by fx inst.1 inst.4 inst.6 inst.8 inst.9 inst.11 t")
	buildIs(t, b, order("u", "inst.7", given("x", "y", "inst.3")), "inst.1: w y; w y by inst.3 inst.1 u")
	var many strings.Builder
	many.WriteString(`$c w $. `)
	for k := range 1000 {
		fmt.Fprintf(&many, "inst.%d $a w $. ", k+1)
	}
	far := loaded(t, many.String()+`h1 $e w $. h2 $e w $. t $p w $= h1 $.`)
	buildIs(t, far, order("t", "inst.1"), "inst.1001: w; inst.1002: w; w by inst.1001 inst.1002 t")
}

// 19.1, 19.2: the target's own essential hypotheses may be used by the proofs, and are mandatory where the instance stands.
func TestTargetsHypotheses(t *testing.T) {
	b := loaded(t, withT+`${ em $e wff ( r -> ) $. en $e |- q $. at $a |- p $. u $p |- r $= ? $. $}`)
	i := buildIs(t, b, order("t", "at", given("p", "( r -> )", "em")), "inst.1: |- ( r -> ); |- ( r -> ) by em inst.1 t")
	whereIs(t, b, "at", i, "wp wq wr em en inst.1", "wq wr em en inst.1")
	i = buildIs(t, b, order("id", "u", given("p", "( p -> ( r -> ) )", "wp em wi")), "|- ( ( p -> ( r -> ) ) -> ( p -> ( r -> ) ) ) by wp em wi id")
	whereIs(t, b, "u", i, "wp wq wr em en", "wp wq wr em en")
	refusedIs(t, b, order("id", "u", given("p", "q", "en")), syntax("p"))
	refusedIs(t, b, order("id", "id", given("p", "( r -> )", "em")), syntax("p"))
	buildIs(t, b, order("t", "t", given("p", "p", "wp")), "inst.1: |- p; |- p by wp inst.1 t")
	refusedIs(t, b, order("t", "t", given("p", "p", "h")), syntax("p"))
}

// 19.1: Where takes any instance as it stands.
func TestWhereOfAnyInstance(t *testing.T) {
	b := loaded(t, withT+`$v x $. fx $f |- x $. late $a |- x $.`)
	p, q, x := 5, 6, 8
	whereIs(t, b, "id", api.Instance{}, "wp wq wr", "")
	whereIs(t, b, "t", api.Instance{}, "wp wq wr h", "wp h")
	whereIs(t, b, "t", api.Instance{Goal: api.Expr{q, 99, -7, q}}, "wp wq wr h", "wp wq h")
	whereIs(t, b, "late", api.Instance{Goal: api.Expr{x}, Proof: []string{"zz"}}, "wp wq wr fx", "fx")
	whereIs(t, b, "id", api.Instance{Goal: api.Expr{x}}, "wp wq wr", "")
	odd := []api.Hyp{{Label: "a", Floating: true, Var: 99, Expr: api.Expr{p}}, {Label: "b", Var: q, Expr: api.Expr{99, x}}, {Label: "wp", Floating: true, Var: -1, Expr: nil}, {Label: "", Floating: true, Var: -7}, {Label: "c", Floating: true, Var: x, Expr: api.Expr{1, 2, 3}}}
	whereIs(t, b, "id", api.Instance{Hyps: odd, Goal: api.Expr{-7}}, "wp wq wr a b wp  c", "a b  c")
	whereIs(t, b, "id", api.Instance{Hyps: odd[:1]}, "wp wq wr a", "")
	whereIs(t, b, "id", api.Instance{Hyps: []api.Hyp{{Label: "e", Var: -1, Expr: api.Expr{-1, p}}, odd[2]}}, "wp wq wr e wp", "wp e wp")
	whereIs(t, b, "id", api.Instance{Hyps: []api.Hyp{{Label: "wp", Floating: true, Var: p, Expr: api.Expr{3, p}}}, Goal: api.Expr{p}}, "wp wq wr wp", "wp wp")
}
