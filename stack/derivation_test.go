package stack

import (
	"math"
	"slices"
	"strings"
	"testing"

	"lemma/api"
	"lemma/base"
)

// derivation is a tree of labels (R8), with what it proves.
type derivation struct {
	label  string
	parts  []*derivation
	proves api.Expr
}

// labels gives them parts first.
func (d *derivation) labels() []string {
	var all []string
	for _, part := range d.parts {
		all = append(all, part.labels()...)
	}
	return append(all, d.label)
}

// peak tells how many entries a run of the labels has at most: while a part is run, those ahead of it lie there.
func (d *derivation) peak() int {
	most := 1
	for i, part := range d.parts {
		most = max(most, i+part.peak())
	}
	return most
}

// logic is a text of short strings, in which much can be proved.
const logic = `$c w p a $. $v x y z $. wx $f w x $. wy $f w y $. wz $f w z $.
wa $a w a $.
wn $a w $.
ww $a w x y $.
pa $a p x a $.
${ hx $e p x $. hy $e p y $. join $a p x y $. $}
${ hz $e p z x $. swap $a p x z $. $}
${ $d x y $. hd $e p x $. apart $a p y $. $}
${ $d x y $. $d x z $. e1 $e p x $. here $p p x $= ? $. $}`

// grown gives derivations in a context, made by a rule of hypotheses and of assertions with parts that were made before.
func grown(b *base.Base, c api.Context, r *rule) []*derivation {
	var pool []*derivation
	met := map[string]bool{}
	for _, h := range c.Hyps {
		pool = append(pool, &derivation{label: h.Label, proves: h.Expr})
	}
	for tries := 0; tries < 40000 && len(pool) < 800; tries++ {
		a, _ := b.At(r.below(c.Before))
		d := &derivation{label: a.Label}
		var last []api.Expr
		put := map[int]api.Expr{}
		for _, h := range a.Frame.Hyps {
			part := fittingPart(pool, h, put, r)
			d.parts = append(d.parts, part)
			last = append(last, part.proves)
		}
		made, code := conclude(a.Frame, last, c.Pairs, b.IsVar)
		text := strings.Join(d.labels(), " ")
		if code == api.OK && len(made) < 6 && len(text) < 2000 && !met[text] {
			d.proves, met[text] = made, true
			pool = append(pool, d)
		}
	}
	return pool
}

// fittingPart picks a derivation of what a hypothesis asks for, where there is one; the strings of the floating ones are noted in put.
func fittingPart(pool []*derivation, h api.Hyp, put map[int]api.Expr, r *rule) *derivation {
	var fitting []*derivation
	for _, d := range pool {
		if h.Floating && d.proves[0] == h.Expr[0] || !h.Floating && slices.Equal(d.proves, formed(h.Expr, put)) {
			fitting = append(fitting, d)
		}
	}
	if len(fitting) == 0 {
		return one(r, pool)
	}
	part := one(r, fitting)
	if h.Floating {
		put[h.Var] = part.proves[1:]
	}
	return part
}

// asserted tells how many of the labels are assertions'.
func asserted(b *base.Base, labels []string) int {
	n := 0
	for _, label := range labels {
		if _, found := b.Find(label); found {
			n++
		}
	}
	return n
}

// P11.8: the labels of a derivation run to what it proves; along the run the entries are what the derivations prove whose labels were run.
func TestDerivations(t *testing.T) {
	b := loaded(t, logic)
	c, _ := b.Behind(b.Count()-1, nil)
	r := rule(8)
	deepest := 0
	for _, d := range grown(b, c, &r) {
		c.Goal = d.proves
		labels := d.labels()
		want := api.Verdict{Count: asserted(b, labels), Peak: d.peak()}
		if v := Run(b, c, plain(labels...)); v != want {
			t.Fatalf("P11.8: %v proves %v: %v, want %v", labels, d.proves, v, want)
		}
		deepest = max(deepest, d.peak())
		m := New(c, b.IsVar)
		var proved []api.Expr
		along(t, b, c, m, d, &proved)
	}
	if deepest < 8 {
		t.Errorf("the deepest derivation has %d entries: they are hardly tried", deepest)
	}
}

// along runs a derivation's labels one by one, on what was proved ahead of it.
func along(t *testing.T, b *base.Base, c api.Context, m *Machine, d *derivation, proved *[]api.Expr) {
	t.Helper()
	for _, part := range d.parts {
		along(t, b, c, m, part, proved)
	}
	h, a, asserted, code := Step(b, c, d.label)
	if code == api.OK && asserted {
		code = m.Apply(a.Frame)
	} else if code == api.OK {
		code = m.Push(h.Expr)
	}
	*proved = append((*proved)[:len(*proved)-len(d.parts)], d.proves)
	if code != api.OK || !slices.EqualFunc(m.entries, *proved, slices.Equal) {
		t.Fatalf("P11.8: at %s: %d, the entries are %v, the derivations prove %v", d.label, code, m.entries, *proved)
	}
}

// P11.8: what runs is a derivation of the goal: of all short lists of labels those that are OK, and they alone.
func TestShortRunsAreDerivations(t *testing.T) {
	b := loaded(t, small)
	c := contextOf(t, b, "out")
	found := 0
	for _, words := range shortProofs("wx wy none two hxy", 6) {
		d, whole := treeOf(b, c, words)
		for _, goal := range []api.Expr{c.Goal, list(0, 2), list(0, 3), list(0)} {
			c.Goal = goal
			v := Run(b, c, plain(words...))
			if proves := whole && slices.Equal(d.proves, goal); proves != (v.Code == api.OK) {
				t.Fatalf("P11.8: %v to %v: %v, though it is a derivation of it: %v", words, goal, v, proves)
			}
			if v.Code == api.OK {
				found++
			}
		}
	}
	if found < 20 {
		t.Errorf("%d derivations: they are hardly tried", found)
	}
}

// shortProofs gives every list of at most so many of the labels.
func shortProofs(labels string, most int) [][]string {
	all := [][]string{nil}
	for from := 0; len(all[from]) < most; from++ {
		for _, label := range strings.Fields(labels) {
			all = append(all, append(slices.Clone(all[from]), label))
		}
	}
	return all
}

// treeOf reads labels from the back: the last is the root, each part takes the labels that it needs. False: they are not just one derivation.
func treeOf(b *base.Base, c api.Context, labels []string) (*derivation, bool) {
	left := slices.Clone(labels)
	d, ok := takeTree(b, c, &left)
	return d, ok && len(left) == 0
}

func takeTree(b *base.Base, c api.Context, left *[]string) (*derivation, bool) {
	if len(*left) == 0 {
		return nil, false
	}
	d := &derivation{label: (*left)[len(*left)-1]}
	*left = (*left)[:len(*left)-1]
	for _, h := range c.Hyps {
		if h.Label == d.label {
			d.proves = h.Expr
			return d, true
		}
	}
	n, _ := b.Find(d.label)
	a, _ := b.At(n)
	last := make([]api.Expr, len(a.Frame.Hyps))
	for i := range last {
		part, ok := takeTree(b, c, left)
		if !ok {
			return nil, false
		}
		last[len(last)-1-i] = part.proves
	}
	made, code := conclude(a.Frame, last, c.Pairs, b.IsVar)
	d.proves = made
	return d, code == api.OK
}

// P11.8: what is OK is OK with more hypotheses behind, more pairs, and a greater Before.
func TestMoreIsAllowed(t *testing.T) {
	b := loaded(t, small)
	accepted := 0
	for _, label := range []string{"in", "out"} {
		c := contextOf(t, b, label)
		wider := []api.Context{c, c, c, c}
		wider[0].Hyps = append(slices.Clone(c.Hyps), api.Hyp{Label: "new", Expr: c.Goal}, api.Hyp{Label: "hx", Var: -1}, api.Hyp{Label: "wx2", Floating: true, Var: 2, Expr: list(0, 2)})
		wider[1].Pairs = append([]api.Pair{{A: 3, B: 2}, {A: 3, B: 3}, {A: -1, B: 0}}, c.Pairs...)
		wider[2].Before = b.Count()
		wider[3].Before = math.MaxInt
		wider[3].Hyps, wider[3].Pairs = wider[0].Hyps, wider[1].Pairs
		for _, words := range shortProofs("wx wy none two hxy", 5) {
			p := plain(words...)
			v := Run(b, c, p)
			if v.Code != api.OK {
				continue
			}
			accepted++
			for i, w := range wider {
				if u := Run(b, w, p); u != v {
					t.Fatalf("P11.8: %v where more is allowed (%d): %v", words, i, u)
				}
			}
		}
	}
	if accepted < 5 {
		t.Errorf("%d proofs are OK: they are hardly tried", accepted)
	}
}
