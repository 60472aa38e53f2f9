package inst

import (
	"strings"
	"testing"

	"lemma/api"
)

// wrongs is a text with theorems that are one but for their labels: proved, not proved, and an axiom.
const wrongs = `$c ( ) -> wff |- ~ $. $v p q r $. wp $f wff p $. wq $f wff q $. wr $f wff r $. wn $a wff ~ p $.
none $a wff $. wi $a wff ( p -> q ) $. a1 $a |- ( p -> ( q -> p ) ) $.
${ h $e |- r $. $d p q $. ax $a |- ( p -> ( q -> p ) ) $. no $p |- ( p -> ( q -> p ) ) $= wp wq wi $. open $p |- ( p -> ( q -> p ) ) $= ? $. th $p |- ( p -> ( q -> p ) ) $= wp wq a1 $. $}
`

// negated gives a string of so many symbols, and the labels that prove that it is one.
func negated(symbols int, variable string) (string, string) {
	return strings.Repeat("~ ", symbols-1) + variable, "w" + variable + strings.Repeat(" wn", symbols-1)
}

// 19.1: of all that may be wrong with an order, together in all ways, the first is told.
func TestFirstRefusal(t *testing.T) {
	b := loaded(t, wrongs)
	long, longProof := negated(99, "p")
	for way := range 6 * 2 * 3 * 2 * 2 {
		theorem, want := []string{"zz", "ax", "no", "open", "wp", "th"}[way%6], []api.Errno{api.ErrNone, api.ErrNone, api.ErrUnproved, api.ErrUnproved, api.ErrNone, api.OK}[way%6]
		target, at := []string{"a1", "zz"}[way/6%2], way/12
		q, qProof := "q", "wq"
		if at%3 == 1 {
			q, qProof = "p", "wp"
		}
		if at%3 == 2 {
			q, qProof = "( p -> q )", "wp wq wi"
		}
		p, pProof := []string{"p", long}[at/3%2], []string{"wp", longProof}[at/3%2]
		rProof := []string{"wr", "wq"}[at/6]
		o := order(theorem, target, given("r", "r", rProof), given("q", q, qProof), given("p", p, pProof))
		refusal := bare(want)
		switch {
		case want != api.OK:
		case target == "zz":
			refusal = bare(api.ErrTarget)
		case at/6 == 1:
			refusal = syntax("r")
		default:
			refusal = distinct("p", "q") // a1's scope has no pairs
		}
		refusedIs(t, b, o, refusal)
	}
}

// 19.1: a pair that is broken is told ahead of what is too long; a string that is none ahead of both.
func TestRefusalsOfStrings(t *testing.T) {
	b := loaded(t, wrongs)
	long, proof := negated(99, "p")
	well := []api.Given{given("p", long, proof), given("q", "q", "wq"), given("r", "r", "wr")}
	refusedIs(t, b, order("th", "th", well...), bare(api.ErrTooLong))
	refusedIs(t, b, order("th", "no", well...), bare(api.ErrTooLong))
	refusedIs(t, b, order("th", "a1", well...), distinct("p", "q"))
	refusedIs(t, b, order("th", "th", well[0], given("q", "p", "wp"), well[2]), distinct("p", "q"))
	refusedIs(t, b, order("th", "a1", well[0], well[1]), syntax("r"))
	refusedIs(t, b, order("th", "a1", given("q", "p", "wp"), given("p", "q", "wp")), syntax("p"))
}

// 19.1: the first variable that is refused is told, in the order of the hypotheses, not in that of the strings or of the variables' numbers.
func TestFirstVariable(t *testing.T) {
	b := loaded(t, wrongs)
	for way := range 8 {
		var l []api.Given
		want := ""
		for k, v := range []string{"p", "q", "r"} {
			if way>>k&1 == 0 {
				l = append([]api.Given{given(v, v, "w"+v)}, l...)
			} else if want == "" {
				want = v
			}
		}
		if want != "" {
			refusedIs(t, b, order("th", "th", l...), syntax(want))
		}
	}
	turned := loaded(t, `$c w v $. $v x y $. fy $f v y $. fx $f v x $. ax $a w x y $. t $p w x y $= fy fx ax $.`)
	refusedIs(t, turned, order("t", "t"), syntax("y"))
	refusedIs(t, turned, order("t", "t", given("y", "y", "fy")), syntax("x"))
	buildIs(t, turned, order("t", "t", given("x", "y", "fy"), given("y", "x", "fx")), "w y x by fx fy t")
}

// 19.1: labels that are no assertion's, and those of assertions that are no theorems.
func TestLabels(t *testing.T) {
	b := loaded(t, wrongs)
	l := []api.Given{given("p", "p", "wp"), given("q", "q", "wq"), given("r", "r", "wr")}
	for _, label := range []string{"", " ", "h", "wp", "p", "wff", "th ", "TH", "$p", "\x00", "ax", "wi"} {
		refusedIs(t, b, order(label, "th", l...), bare(api.ErrNone))
		refusedIs(t, b, order(label, label, l...), bare(api.ErrNone))
	}
	for _, label := range []string{"", " ", "h", "wp", "p", "wff", "th ", "$p", "zz"} {
		refusedIs(t, b, order("th", label, l...), bare(api.ErrTarget))
		refusedIs(t, b, order("no", label, l...), bare(api.ErrUnproved))
		whereHolds(t, b, label, api.Instance{})
	}
	for _, label := range []string{"th", "no", "open", "ax"} { // an axiom, and a theorem that is not proved, are targets like others
		buildIs(t, b, order("th", label, l...), "inst.1: |- r; |- ( p -> ( q -> p ) ) by wp wq wr inst.1 th")
	}
	empty := loaded(t, "")
	refusedIs(t, empty, order("", ""), bare(api.ErrNone))
	refusedIs(t, empty, api.Order{}, bare(api.ErrNone))
	whereHolds(t, empty, "", api.Instance{})
}

// lists gives all lists of so many of these words at most.
func lists(words []string, most int) []string {
	all, last := []string{""}, []string{""}
	for range most {
		var next []string
		for _, text := range last {
			for _, word := range words {
				next = append(next, strings.TrimSpace(text+" "+word))
			}
		}
		all, last = append(all, next...), next
	}
	return all
}

// shorts is a text of hypotheses of all sorts, and of small theorems.
const shorts = `$c w v $. $v x y $. fx $f v x $. e $a v $. ${ $v z $. fz $f v z $. hz $e v z z $. i $a w z $. $} ax $a w x $.
t $p w x $= fx ax $. ${ fy $f v y $. hy $e w y $. $d x y $. u $p w y x $= ? $. k $p w y $= hy $. $} l $a v x x $.`

// 19.1 to 19.4: all short strings with all short proofs, in each scope.
func TestAllShortGivens(t *testing.T) {
	b := loaded(t, shorts)
	seen := map[api.Errno]int{}
	for _, target := range []string{"e", "i", "ax", "u", "l"} {
		for _, proof := range lists([]string{"fx", "fy", "fz", "hz", "hy", "e", "l", "ax", "?", "no"}, 2) {
			for _, words := range lists([]string{"x", "y", "z", "v", "?"}, 2) {
				code, _ := holds(t, b, order("t", target, given("x", words, proof)))
				seen[code]++
				code, _ = holds(t, b, order("k", target, given("y", words, proof)))
				seen[code]++
			}
		}
	}
	if seen[api.OK] < 40 || seen[api.ErrSyntax] < 10000 {
		t.Errorf("short strings: %v: it is hardly tried", seen)
	}
}

// 19.3: all short strings for both variables of a pair, in scopes with pairs and without.
func TestAllShortPairs(t *testing.T) {
	b := loaded(t, `$c w v $. $v x y z u $. fx $f v x $. fy $f v y $. fz $f v z $. fu $f v u $. cat $a v x y $. e $a v $. c $a v w $. g $a w x y $.
${ $d x y $. t $p w x y $= fx fy g $. one $a w $. $} none $a w $. ${ $d u z $. $d z x $. b $a w $. $} ${ $d x y z u $. all $a w $. $}`)
	seen := map[api.Errno]int{}
	var all []api.Given
	for n, words := range lists([]string{"x", "z", "u", "w"}, 2) {
		labels := []string{"fx", "fz", "fu", "c"}
		proof := "e"
		switch {
		case n > 4:
			proof = labels[(n-5)/4] + " " + labels[(n-5)%4] + " cat"
		case n > 0:
			proof = labels[n-1]
		}
		all = append(all, given("x", words, proof))
	}
	for _, target := range []string{"none", "b", "all", "one", "t"} {
		for _, first := range all {
			for _, second := range all {
				second.Var = "y"
				code, verdict := holds(t, b, order("t", target, first, second))
				seen[code]++
				if code != api.OK && code != api.ErrDistinct || code == api.OK && verdict != api.OK || code != api.OK && verdict != api.ErrApart {
					t.Fatalf("19.1: %v, %v at %s: %d, %d", first, second, target, code, verdict)
				}
			}
		}
	}
	if seen[api.OK] < 300 || seen[api.ErrDistinct] < 300 {
		t.Errorf("short strings: %v: it is hardly tried", seen)
	}
}

func nothing(i api.Instance) bool { return len(i.Hyps)+len(i.Goal)+len(i.Proof) == 0 }

// 19.1: of several pairs that are broken the first of the frame's is told, its variables as they stand there.
func TestFirstPair(t *testing.T) {
	b := loaded(t, `$c w v $. $v x y z $. fz $f v z $. fy $f v y $. fx $f v x $. g $a w x y z $. $d z y x $. t $p w x y z $= fz fy fx g $.`)
	vars := []string{"x", "y", "z"}
	for way := range 27 {
		var l []api.Given
		var put []string
		for k, v := range vars {
			s := vars[way/[]int{1, 3, 9}[k]%3]
			l, put = append(l, given(v, s, "f"+s)), append(put, s)
		}
		o := order("t", "t", l...)
		switch {
		case put[0] == put[1]:
			refusedIs(t, b, o, distinct("x", "y"))
		case put[0] == put[2]:
			refusedIs(t, b, o, distinct("x", "z"))
		case put[1] == put[2]:
			refusedIs(t, b, o, distinct("y", "z"))
		default:
			if i, no := Build(b, o); no != (api.Refusal{}) || nothing(i) {
				t.Errorf("19.1: Build(%+v): %+v", o, no)
			}
			holds(t, b, o)
		}
		var turned []api.Given
		for k := range l {
			turned = append(turned, l[len(l)-1-k])
		}
		holds(t, b, order("t", "g", turned...))
	}
}

// 19.1: labels that nothing has, in a base whose first assertion is a proved theorem.
func TestNoLabelOfFirst(t *testing.T) {
	b := loaded(t, `$c w $. h $e w $. t $p w $= h $.`)
	buildIs(t, b, order("t", "t"), "inst.1: w; w by inst.1 t")
	refusedIs(t, b, order("zz", "t"), bare(api.ErrNone))
	refusedIs(t, b, order("h", "t"), bare(api.ErrNone))
	refusedIs(t, b, order("t", "zz"), bare(api.ErrTarget))
	refusedIs(t, b, order("t", "h"), bare(api.ErrTarget))
	whereHolds(t, b, "zz", api.Instance{})
	whereHolds(t, b, "h", api.Instance{})
}
