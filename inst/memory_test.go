package inst

import (
	"fmt"
	"reflect"
	"slices"
	"testing"

	"lemma/api"
	"lemma/base"
)

// tries is a text of targets and theorems of all sorts.
const tries = withT + `${ $v x $. fx $f wff x $. em $e wff ( x -> x ) $. en $e |- q $. $d p x q $. f1 $e |- ( p -> q ) $. f2 $e |- q $. two $p |- q $= f2 $. $} bad $p wff p $= wq $. last $a wff r $.`

// orders gives orders that are built, and refused in every way.
func orders() []api.Order {
	long, proof := "p", "wp"
	for range 40 {
		long, proof = "( "+long+" -> p )", proof+" wp wi"
	}
	return []api.Order{
		order("two", "two", given("p", "x", "fx"), given("q", "q", "wq"), given("zz", "p", "wp"), given("x", "( p -> p )", "wp wp wi")), order("t", "id", given("p", "( p -> p )", "wp wp wi")), order("id", "v2", given("p", "( q -> r )", "wq wr wi")),
		order("dd", "two", given("p", "( x -> x )", "em"), given("q", "q", "wq")), order("dd", "id", given("p", "p", "wp"), given("q", "q", "wq")), order("id", "id"), order("id", "zz"), order("bad", "id"), order("mp", "id"), order("id", "id", given("p", long, proof)),
	}
}

// spoilInts writes over a list and the room behind it.
func spoilInts(l []int) {
	l = l[:cap(l)]
	for i := range l {
		l[i] = -99
	}
}

func spoilTexts(l []string) {
	l = l[:cap(l)]
	for i := range l {
		l[i] = "spoilt"
	}
}

func spoilHyps(l []api.Hyp) {
	l = l[:cap(l)]
	for i := range l {
		spoilInts(l[i].Expr)
		l[i] = api.Hyp{Label: "spoilt", Floating: true, Var: -99, Expr: api.Expr{-99}}
	}
}

func spoilInstance(i api.Instance) {
	spoilHyps(i.Hyps)
	spoilInts(i.Goal)
	spoilTexts(i.Proof)
}

func spoilContext(c api.Context) {
	spoilHyps(c.Hyps)
	spoilHyps(c.Mandatory)
	spoilInts(c.Goal)
	for pairs := c.Pairs[:cap(c.Pairs)]; len(pairs) > 0; pairs = pairs[1:] {
		pairs[0] = api.Pair{A: -99, B: -99}
	}
}

func spoilOrder(o api.Order) {
	for _, g := range o.Given {
		spoilTexts(g.Words)
		spoilTexts(g.Proof)
	}
	given := o.Given[:cap(o.Given)]
	for k := range given {
		given[k] = api.Given{Var: "spoilt"}
	}
}

// roomy gives an order whose lists have room behind them, in which something stands.
func roomy(o api.Order) api.Order {
	o = copiedOrder(o)
	text := func(l []string) []string { return append(slices.Clone(l), "room", "room")[:len(l)] }
	for k, g := range o.Given {
		o.Given[k].Words, o.Given[k].Proof = text(g.Words), text(g.Proof)
	}
	o.Given = append(o.Given, api.Given{Var: "room"})[:len(o.Given)]
	return o
}

// 19.7: what is handed in is not changed, the room behind it neither, and not kept: written over, it changes no answer.
func TestOrderStays(t *testing.T) {
	b := loaded(t, tries)
	for _, o := range orders() {
		handed := roomy(o)
		i, no := Build(b, handed)
		was := fmt.Sprint(i, no)
		if fmt.Sprint(handed) != fmt.Sprint(o) || handed.Given[:len(handed.Given)+1][len(handed.Given)].Var != "room" {
			t.Errorf("19.7: Build changed its order: %+v", handed)
		}
		for _, g := range handed.Given {
			if room := g.Words[:len(g.Words)+2][len(g.Words):]; room[0] != "room" || room[1] != "room" {
				t.Errorf("19.7: Build wrote behind the words of its order: %v", room)
			}
			if room := g.Proof[:len(g.Proof)+2][len(g.Proof):]; room[0] != "room" || room[1] != "room" {
				t.Errorf("19.7: Build wrote behind a proof of its order: %v", room)
			}
		}
		spoilOrder(handed)
		if again := fmt.Sprint(i, no); again != was {
			t.Errorf("19.7: the order, written over, made %s of %s", again, was)
		}
		if again, refusal := Build(b, o); fmt.Sprint(again, refusal) != was {
			t.Errorf("19.7: Build(%+v), asked again: %+v, %+v, want %s", o, again, refusal, was)
		}
	}
}

// 19.7: an instance is new memory: written over, it changes no other one, no later one, and not its order.
func TestInstancesAreNew(t *testing.T) {
	b := loaded(t, tries)
	for _, o := range orders() {
		first, no := Build(b, o)
		second, _ := Build(b, o)
		was := fmt.Sprint(second)
		kept := copiedOrder(o)
		spoilInstance(first)
		_, _ = append(first.Proof, "x"), append(first.Goal, 0)
		if fmt.Sprint(second) != was || !reflect.DeepEqual(o, kept) {
			t.Errorf("19.7: an instance shares memory with another one, or its order: %+v, %+v", second, o)
		}
		if third, refusal := Build(b, o); fmt.Sprint(third) != was || refusal != no {
			t.Errorf("19.7: Build(%+v), an answer written over: %+v, want %s", o, third, was)
		}
	}
}

// 19.7: no list of an instance is part of another list of it.
func TestListsApart(t *testing.T) {
	b := loaded(t, tries)
	for _, o := range orders() {
		want, _ := Build(b, o)
		i, _ := Build(b, o)
		for k := range i.Hyps {
			spoilInts(i.Hyps[k].Expr)
			i.Hyps[k].Expr = slices.Clone(want.Hyps[k].Expr)
			if !reflect.DeepEqual(i, want) {
				t.Errorf("19.7: the hypothesis %d shares memory: %+v", k, i)
			}
		}
		spoilInts(i.Goal)
		i.Goal = slices.Clone(want.Goal)
		if !reflect.DeepEqual(i, want) && len(want.Goal) > 0 {
			t.Errorf("19.7: the goal shares memory: %+v", i)
		}
	}
}

// 19.7: a context is new memory, each of its lists; the instance is not changed and not kept.
func TestContextsAreNew(t *testing.T) {
	b := loaded(t, tries)
	for _, o := range orders() {
		i, _ := Build(b, o)
		was := fmt.Sprint(i)
		i.Hyps = append(i.Hyps, api.Hyp{Label: "room"})[:len(i.Hyps)]
		first, _ := Where(b, o.Target, i)
		second, _ := Where(b, o.Target, i)
		text := fmt.Sprint(second)
		for k := range first.Hyps {
			mandatory := fmt.Sprint(first.Mandatory, first.Goal)
			spoilInts(first.Hyps[k].Expr)
			if fmt.Sprint(first.Mandatory, first.Goal) != mandatory {
				t.Errorf("19.7: Where(%s): two lists share memory", o.Target)
			}
		}
		spoilContext(first)
		if fmt.Sprint(second) != text || fmt.Sprint(i) != was || i.Hyps[:len(i.Hyps)+1][len(i.Hyps)].Label != "room" {
			t.Errorf("19.7: Where(%s) shares memory: %+v, %+v", o.Target, second, i)
		}
		spoilInstance(i)
		if fmt.Sprint(second) != text {
			t.Errorf("19.7: Where(%s) kept its instance: %+v", o.Target, second)
		}
		again, _ := Build(b, o)
		if third, _ := Where(b, o.Target, again); fmt.Sprint(third) != text {
			t.Errorf("19.7: Where(%s), written over: %+v, want %s", o.Target, third, text)
		}
	}
}

// 19.7: the base is not changed, whatever is asked and whatever is done with the answers.
func TestBaseStays(t *testing.T) {
	b, other := loaded(t, tries), loaded(t, tries)
	for _, o := range orders() {
		i, _ := Build(b, o)
		c, _ := Where(b, o.Target, i)
		spoilInstance(i)
		spoilContext(c)
	}
	for n := range other.Count() {
		got, _ := b.At(n)
		want, _ := other.At(n)
		if !reflect.DeepEqual(got, want) {
			t.Errorf("19.7: calls made %v of the assertion %v", got, want)
		}
	}
	if b.Text() != tries || !reflect.DeepEqual(b.Stmts(), other.Stmts()) {
		t.Error("19.7: calls changed the base's text")
	}
}

// answers gives all answers about a base, as texts; backwards asks in another order.
func answers(b *base.Base, backwards bool) []string {
	l := orders()
	all := make([]string, len(l))
	for k := range l {
		if backwards {
			k = len(l) - 1 - k
		}
		i, no := Build(b, l[k])
		c, code := Where(b, l[k].Target, i)
		all[k] = fmt.Sprint(i, no, c, code)
		spoilInstance(i)
		spoilContext(c)
	}
	return all
}

// R13: nothing is kept from call to call: asked in any order, often, and by many at a time, each call answers as one alone.
func TestOneAnswer(t *testing.T) {
	b := loaded(t, tries)
	want := answers(b, false)
	came := make(chan []string)
	for i := range 16 {
		go func() { came <- answers(b, i%2 == 0) }()
	}
	for range 16 {
		if got := <-came; !slices.Equal(got, want) {
			t.Errorf("R13: %q, want %q", got, want)
		}
	}
}

// R13: the same orders in one base behind another answer as in one alone.
func TestOneBaseBehindAnother(t *testing.T) {
	want := answers(loaded(t, tries), false)
	other := loaded(t, first)
	for range 3 {
		answers(other, false)
		if got := answers(loaded(t, tries), true); !slices.Equal(got, want) {
			t.Errorf("R13: %q, want %q", got, want)
		}
	}
}

// 19.1: the orders of these tests are what they are meant to be.
func TestOrdersOfAllSorts(t *testing.T) {
	b := loaded(t, tries)
	var codes []api.Errno
	for _, o := range orders() {
		code, _ := holds(t, b, o)
		codes = append(codes, code)
	}
	if want := []api.Errno{0, 0, 0, 0, api.ErrDistinct, api.ErrSyntax, api.ErrTarget, api.ErrUnproved, api.ErrNone, api.ErrTooLong}; !slices.Equal(codes, want) {
		t.Errorf("the orders are refused by %v, want %v", codes, want)
	}
}
