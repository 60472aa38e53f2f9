package inst

import (
	"fmt"
	"strings"
	"testing"

	"lemma/api"
	"lemma/base"
)

// loaded gives the base of a text that loads.
func loaded(t *testing.T, text string) *base.Base {
	t.Helper()
	b, fault := base.Load(text)
	if fault != nil {
		t.Fatalf("Load(%q): %v at %+v", text, fault, fault.At)
	}
	return b
}

// given gives what stands for a variable, words and labels parted by blanks.
func given(variable, words, proof string) api.Given {
	return api.Given{Var: variable, Words: strings.Fields(words), Proof: strings.Fields(proof)}
}

func order(theorem, target string, l ...api.Given) api.Order {
	return api.Order{Theorem: theorem, Target: target, Given: l}
}

// shown writes an instance as a text.
func shown(b *base.Base, i api.Instance) string {
	var text strings.Builder
	for _, h := range i.Hyps {
		fmt.Fprintf(&text, "%s: %s; ", h.Label, b.Print(h.Expr))
	}
	return text.String() + b.Print(i.Goal) + " by " + strings.Join(i.Proof, " ")
}

// buildIs holds an order to have an instance, written as shown does.
func buildIs(t *testing.T, b *base.Base, o api.Order, want string) api.Instance {
	t.Helper()
	i, no := Build(b, o)
	if no != (api.Refusal{}) || shown(b, i) != want {
		t.Errorf("19.1: Build(%+v): %q, %+v, want %q", o, shown(b, i), no, want)
	}
	holds(t, b, o)
	return i
}

// refusedIs holds an order to be refused.
func refusedIs(t *testing.T, b *base.Base, o api.Order, want api.Refusal) {
	t.Helper()
	i, no := Build(b, o)
	if no != want || len(i.Hyps)+len(i.Goal)+len(i.Proof) > 0 {
		t.Errorf("19.1: Build(%+v): %+v, %+v, want %+v", o, i, no, want)
	}
	holds(t, b, o)
}

func bare(code api.Errno) api.Refusal { return api.Refusal{Code: code} }

func syntax(variable string) api.Refusal { return api.Refusal{Code: api.ErrSyntax, Var: variable} }

func distinct(a, b string) api.Refusal {
	return api.Refusal{Code: api.ErrDistinct, Pair: [2]string{a, b}}
}

// first is the text M of the chapter on base.
const first = `$c ( ) -> wff |- $. $v p q r $. wp $f wff p $. wq $f wff q $. wr $f wff r $.
wi $a wff ( p -> q ) $. a1 $a |- ( p -> ( q -> p ) ) $. a2 $a |- ( ( p -> ( q -> r ) ) -> ( ( p -> q ) -> ( p -> r ) ) ) $.
${ mn $e |- p $. mj $e |- ( p -> q ) $. mp $a |- q $. $}
id $p |- ( p -> p ) $= wp wp wp wi wi wp wp wi wp wp a1 wp wp wp wi wp wi wi wp wp wp wi wi wp wp wi wi wp wp wp wi a1 wp wp wp wi wp a2 mp mp $.
`

// examples is the base of the chapter's examples.
const examples = first + `v2 $p wff ( q -> q ) $= wq wq wi $. $d p q $. dd $p |- ( p -> ( q -> p ) ) $= wp wq a1 $.
`

const withT = examples + `${ h $e |- p $. t $p |- p $= h $. $}
`

// 19.1: the chapter's first example.
func TestInstanceOfID(t *testing.T) {
	b := loaded(t, examples)
	buildIs(t, b, order("id", "v2", given("p", "( q -> r )", "wq wr wi")), "|- ( ( q -> r ) -> ( q -> r ) ) by wq wr wi id")
}

// 19.1: the chapter's second example.
func TestRefusedExamples(t *testing.T) {
	b := loaded(t, examples)
	well := given("p", "( q -> r )", "wq wr wi")
	refusedIs(t, b, order("id", "zz", well), bare(api.ErrTarget))
	refusedIs(t, b, order("mp", "v2", well), bare(api.ErrNone))
	refusedIs(t, b, order("zz", "v2", well), bare(api.ErrNone))
	refusedIs(t, b, order("id", "v2"), syntax("p"))
	refusedIs(t, b, order("id", "v2", given("p", "( q -> zz )", "wq wr wi")), syntax("p"))
	refusedIs(t, b, order("id", "v2", given("p", "( q -> r )", "wq wi")), syntax("p"))
	refusedIs(t, b, order("id", "v2", given("p", "( q -> r )", "( wi ) A")), syntax("p"))
}

// 19.1: the chapter's third example.
func TestDistinctExamples(t *testing.T) {
	b := loaded(t, examples)
	refusedIs(t, b, order("dd", "id", given("p", "p", "wp"), given("q", "p", "wp")), distinct("p", "q"))
	refusedIs(t, b, order("dd", "id", given("p", "p", "wp"), given("q", "r", "wr")), distinct("p", "q"))
	buildIs(t, b, order("dd", "dd", given("p", "q", "wq"), given("q", "p", "wp")), "|- ( q -> ( p -> q ) ) by wq wp dd")
}

// 19.1: the chapter's fourth and fifth examples.
func TestEssentialExamples(t *testing.T) {
	b := loaded(t, withT)
	i := buildIs(t, b, order("t", "id", given("p", "( p -> p )", "wp wp wi")), "inst.1: |- ( p -> p ); |- ( p -> p ) by wp wp wi inst.1 t")
	whereIs(t, b, "id", i, "wp wq wr inst.1", "wp inst.1")
	c, _ := Where(b, "id", i)
	if b.Print(c.Goal) != "|- ( p -> p )" || c.Before != b.Count() || len(c.Pairs) > 0 {
		t.Errorf("19.1: Where: %+v", c)
	}
}

// whereIs holds the context of an instance to have these hypotheses, and these that are mandatory.
func whereIs(t *testing.T, b *base.Base, target string, i api.Instance, hyps, mandatory string) {
	t.Helper()
	c, code := Where(b, target, i)
	if code != api.OK || labelsOf(c.Hyps) != hyps || labelsOf(c.Mandatory) != mandatory {
		t.Errorf("19.1: Where(%s, %+v): %s; %s; %d, want %s; %s", target, i, labelsOf(c.Hyps), labelsOf(c.Mandatory), code, hyps, mandatory)
	}
	whereHolds(t, b, target, i)
}

func labelsOf(l []api.Hyp) string {
	var labels []string
	for _, h := range l {
		labels = append(labels, h.Label)
	}
	return strings.Join(labels, " ")
}
