package inst

import (
	"fmt"
	"slices"
	"strings"
	"testing"

	"lemma/api"
	"lemma/base"
	"lemma/verify"
)

// atEnd gives the hypotheses that are active where a base's text ends.
func atEnd(t *testing.T, b *base.Base) []api.Hyp {
	t.Helper()
	probe := loaded(t, b.Text()+"\n$c probe $. probe.a $a probe $.")
	a, _ := probe.At(probe.Count() - 1)
	return a.Scope.Hyps
}

// standing writes the text of a base with an instance stated behind it as a theorem, in a scope that has what the target's has, its hypotheses under new labels where the old ones are not active.
func standing(t *testing.T, b *base.Base, target api.Assertion, i api.Instance) string {
	t.Helper()
	active := atEnd(t, b)
	labels := map[string]string{}
	var text strings.Builder
	text.WriteString(b.Text() + "\n${ ")
	for _, h := range slices.Concat(target.Scope.Hyps, i.Hyps) {
		same := func(other api.Hyp) bool { return other.Label == h.Label }
		if slices.ContainsFunc(active, same) {
			continue
		}
		label := h.Label
		if !slices.ContainsFunc(i.Hyps, same) {
			label = fmt.Sprint("again.", len(labels))
			labels[h.Label] = label
		}
		if h.Floating {
			fmt.Fprintf(&text, "$v %s $. %s $f %s $. ", b.Name(h.Var), label, b.Print(h.Expr))
		} else {
			fmt.Fprintf(&text, "%s $e %s $. ", label, b.Print(h.Expr))
		}
	}
	for _, p := range target.Scope.Pairs {
		fmt.Fprintf(&text, "$d %s %s $. ", b.Name(p.A), b.Name(p.B))
	}
	fmt.Fprintf(&text, "stands $p %s $=", b.Print(i.Goal))
	for _, label := range i.Proof {
		if again := labels[label]; again != "" {
			label = again
		}
		text.WriteString(" " + label)
	}
	return text.String() + " $. $}"
}

// standsHold holds an instance to have its verdict as a theorem of the text too (19.2, P0.4): behind the base, in a scope like the target's, widened by the new hypotheses.
func standsHold(t *testing.T, b *base.Base, target string, i api.Instance, want api.Errno) {
	t.Helper()
	a, _ := labelled(b, target)
	text := standing(t, b, a, i)
	with := loaded(t, text)
	v, code := verify.Theorem(with, with.Count()-1)
	if code != api.OK || v.Code != want || v.Label != "stands" {
		t.Errorf("19.2: the instance %q, stated: %+v, want %d: %s", shown(b, i), v, want, text)
	}
}

// 19.2: the chapter's instances stand behind the base.
func TestStands(t *testing.T) {
	b := loaded(t, withT+`${ $v x $. fx $f wff x $. eq $e wff ( q -> ) $. $d x q $. at $a wff x $. $} wn $a wff $.`)
	for _, o := range []api.Order{
		order("id", "v2", given("p", "( q -> r )", "wq wr wi")), order("dd", "dd", given("p", "q", "wq"), given("q", "p", "wp")), order("t", "id", given("p", "( p -> p )", "wp wp wi")),
		order("dd", "at", given("p", "x", "fx"), given("q", "( q -> )", "eq")), order("t", "at", given("p", "( x -> ( q -> ) )", "fx eq wi")), order("id", "at", given("p", "", "wn")), order("t", "t", given("p", "", "wn")),
	} {
		i, no := Build(b, o)
		if no != (api.Refusal{}) {
			t.Errorf("19.1: Build(%+v): %+v", o, no)
		}
		standsHold(t, b, o.Target, i, api.OK)
	}
}
