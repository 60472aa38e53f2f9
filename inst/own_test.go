package inst

import (
	"slices"
	"testing"

	"lemma/api"
	"lemma/base"
	"lemma/verify"
)

// ownHolds holds every proved theorem of a base to have the instance of itself (19.5). It tells how many there are.
func ownHolds(t *testing.T, b *base.Base) int {
	t.Helper()
	proved := 0
	for n := range b.Count() {
		a, _ := b.At(n)
		v, code := verify.Theorem(b, n)
		if code != api.OK || v.Code != api.OK {
			continue
		}
		proved++
		o := order(a.Label, a.Label)
		var said []api.Expr
		var labels []string
		for _, h := range a.Frame.Hyps {
			if h.Floating {
				o.Given = append(o.Given, given(b.Name(h.Var), b.Name(h.Var), h.Label))
				labels = append(labels, h.Label)
			} else {
				said = append(said, h.Expr)
				labels = append(labels, "")
			}
		}
		slices.Reverse(o.Given)
		i, no := Build(b, o)
		if no != (api.Refusal{}) || !slices.Equal(i.Goal, a.Frame.Goal) || len(i.Hyps) != len(said) || len(i.Proof) != len(labels)+1 || i.Proof[len(labels)] != a.Label {
			t.Errorf("19.5: %s of itself: %+v, %+v", a.Label, i, no)
			continue
		}
		for k, label := range i.Proof[:len(labels)] {
			if labels[k] == "" {
				if label != i.Hyps[0].Label || !slices.Equal(i.Hyps[0].Expr, said[0]) {
					t.Errorf("19.5: %s of itself: %+v, want %v", a.Label, i, said)
				}
				i.Hyps, said = i.Hyps[1:], said[1:]
			} else if label != labels[k] {
				t.Errorf("19.5: %s of itself is proved by %v", a.Label, i.Proof)
			}
		}
		holds(t, b, o)
	}
	return proved
}

// 19.5: theorems of the chapter's examples, and of hypotheses and pairs in an order of all sorts.
func TestOwnInstances(t *testing.T) {
	for text, want := range map[string]int{
		"":     0,
		first:  1,
		withT:  4,
		wrongs: 1,
		shorts: 2,
		`$c w v $. ${ $v y x $. h1 $e w $. fx $f v x $. h2 $e w x $. fy $f v y $. $d y x $. h3 $e w x y $. t1 $p w y x $= ? $. t2 $p w x y $= h3 $. t3 $p w $= h1 $. t4 $p w x $= ( h2 ) D $. $} t5 $p w $= t3 $. ${ h $e w $. t6 $p w $= h $. $}`: 3,
	} {
		if got := ownHolds(t, loaded(t, text)); got != want {
			t.Errorf("19.5: %d proved theorems in %q, want %d", got, text, want)
		}
	}
}
