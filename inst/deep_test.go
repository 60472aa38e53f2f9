package inst

import (
	"fmt"
	"strings"
	"testing"

	"lemma/api"
	"lemma/base"
)

// verdictIs holds an order to have an instance whose proof has this verdict.
func verdictIs(t *testing.T, b *base.Base, o api.Order, want api.Errno) {
	t.Helper()
	refusal, verdict := holds(t, b, o)
	if refusal != api.OK || verdict != want {
		t.Errorf("19.2: Build(%+v): refused by %d, the verdict on its proof %d, want %d", o, refusal, verdict, want)
	}
}

// 19.1, 19.2: a theorem with more mandatory hypotheses than a stack has room for has instances, whose proofs are too deep.
func TestManyHypotheses(t *testing.T) {
	for _, many := range []int{1, 38, 39, 40, 41, 60} {
		var text strings.Builder
		text.WriteString("$c w v $. $v x $. fx $f v x $. vv $a v x x $. ")
		for k := range many - 1 {
			fmt.Fprintf(&text, "h%d $e w x $. ", k)
		}
		b := loaded(t, text.String()+"ax $a v x $. here $a w $. t $p v x $= fx $.")
		want := api.OK
		if many > 40 {
			want = api.ErrDeep
		}
		verdictIs(t, b, order("t", "vv", given("x", "x x", "fx vv")), want)
		i, _ := Build(b, order("t", "vv", given("x", "x x", "fx vv")))
		if len(i.Hyps) != many-1 {
			t.Errorf("19.1: %d new hypotheses, want %d", len(i.Hyps), many-1)
		}
	}
}

// 19.1 to 19.3: a proof that runs deep behind many entries: it is accepted by itself, what is made of it is too deep.
func TestDeepBehindMany(t *testing.T) {
	for deep := 1; deep <= 41; deep++ {
		var text strings.Builder
		text.WriteString("$c w v $. ${ $v x $. fx $f v x $. ")
		for k := range 20 {
			fmt.Fprintf(&text, "h%d $e w x $. ", k)
		}
		text.WriteString("$v y $. fy $f v y $. hy $e w y $. t $p w y $= hy $. $d x y $. td $p w y $= hy $. $} ${ $v x $. gx $f v x $. v2 $a v x $. $v z $. gz $f v z $. c $a v x z $. here $a w $. $d x z $. there $a w $. $}")
		b := loaded(t, text.String())
		proof, words := strings.Repeat("gx ", deep)+strings.Repeat("c ", deep-1), strings.Repeat("x ", deep)
		y := given("y", words, proof)
		if deep > 40 {
			refusedIs(t, b, order("t", "here", given("x", "x", "gx"), y), syntax("y"))
			continue
		}
		want := api.OK
		if 21+deep > 40 {
			want = api.ErrDeep
		}
		verdictIs(t, b, order("t", "here", given("x", "z", "gz"), y), want)
		verdictIs(t, b, order("td", "there", given("x", "z", "gz"), y), want)
		o := order("td", "here", given("x", "z", "gz"), y)
		refusedIs(t, b, o, distinct("x", "y"))
		if want == api.OK {
			want = api.ErrApart
		}
		if _, verdict := holds(t, b, o); verdict != want {
			t.Errorf("19.3: %d deep behind 21: %d, want %d", deep, verdict, want)
		}
	}
}

// 19.1 to 19.3: proofs of as many steps as one may have: what is made of them has more.
func TestManySteps(t *testing.T) {
	b := loaded(t, `$c w v $. $v x y $. fx $f v x $. fy $f v y $. vv $a v x $. ax $a w x $. ay $a w x y $. t $p w x $= fx ax $. u $p w x y $= fx fy ay $. $d x y $. d $p w x y $= fx fy ay $.`)
	steps := func(variable, first string, many int) api.Given {
		return given(variable, first[1:], first+strings.Repeat(" vv", many-1))
	}
	refusedIs(t, b, order("t", "t", steps("x", "fy", 4001)), syntax("x"))
	verdictIs(t, b, order("t", "t", steps("x", "fy", 4000)), api.ErrSteps)
	verdictIs(t, b, order("t", "t", steps("x", "fy", 3999)), api.OK)
	verdictIs(t, b, order("u", "t", steps("x", "fy", 2000), steps("y", "fy", 1999)), api.OK)
	verdictIs(t, b, order("u", "t", steps("x", "fy", 2000), steps("y", "fy", 2000)), api.ErrSteps)
	verdictIs(t, b, order("u", "t", steps("x", "fy", 4000), steps("y", "fy", 4000)), api.ErrSteps)
	for many, want := range map[int]api.Errno{1999: api.ErrApart, 2000: api.ErrSteps} {
		o := order("d", "t", steps("x", "fy", 2000), steps("y", "fy", many))
		refusedIs(t, b, o, distinct("x", "y"))
		if _, verdict := holds(t, b, o); verdict != want {
			t.Errorf("19.3: %d steps: %d, want %d", 2000+many, verdict, want)
		}
	}
}
