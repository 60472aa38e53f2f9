package inst

import (
	"fmt"
	"slices"
	"strings"
	"testing"

	"lemma/api"
	"lemma/base"
	"lemma/fold"
	"lemma/proof"
)

// writer writes a text by a rule, statement by statement.
type writer struct {
	*rule
	text  string
	open  int // scopes
	hyps  int // hypotheses
	items int // assertions behind the first ones
}

func (w *writer) say(text string) { w.text += text + "\n" }

// prover looks at where the text ends now, for the proof of a goal.
func (w *writer) prover(goal string) prover {
	b, fault := base.Load(w.text + " here $a w $." + strings.Repeat(" $}", w.open))
	if fault != nil {
		panic(fault)
	}
	n, _ := b.Find("here")
	e, _ := b.Read(strings.Fields(goal))
	c, _ := b.Behind(n, e)
	c.Before = n
	return prover{rule: w.rule, b: b, c: c}
}

// hyp writes an essential hypothesis of its own label, or of one that an instance would like to have.
func (w *writer) hyp(kind string, said *term) {
	w.hyps++
	label := fmt.Sprint("h", w.hyps)
	if w.hyps%5 == 0 {
		label = fmt.Sprint("inst.", w.hyps/5)
	}
	w.say(fmt.Sprintf("%s $e %s %s $.", label, kind, said.text()))
}

// declare writes a bracket, a hypothesis, a variable or variables that are distinct.
func (w *writer) declare() {
	p := w.prover("w")
	switch choice := w.below(9); {
	case choice < 2 && w.open < 3:
		w.say("${")
		w.open++
	case choice < 4 && w.open > 0:
		w.say("$}")
		w.open--
	case choice == 4 && w.open > 0:
		w.hyp("w", one(w.rule, []*term{{}, p.term(1), p.term(1)}))
	case choice == 5 && w.open > 0:
		w.hyp("v", p.term(2))
	case choice == 6 && w.open > 0:
		w.hyps++
		w.say(fmt.Sprintf("$v u%d $. fu%d $f v u%d $.", w.hyps, w.hyps, w.hyps))
	default:
		if a, b := p.term(0).text(), p.term(0).text(); a != b {
			w.say("$d " + a + " " + b + " $.")
		}
	}
}

// item writes a theorem, or now and then an axiom or a theorem that is not proved.
func (w *writer) item() {
	label := fmt.Sprint("t", w.items)
	w.items++
	said := one(w.rule, []*term{{}, w.prover("w").term(2), w.prover("w").term(1), w.prover("w").term(3)})
	goal := "w " + said.text()
	if w.below(6) == 0 {
		w.say(fmt.Sprintf("%s $a %s $.", label, goal))
		return
	}
	p := w.prover(goal)
	words := p.proof(said, 3)
	if labels, codes, code := fold.Labels(p.b, p.c, words); code == api.OK && w.below(2) == 0 {
		text, _ := proof.Packed(labels, codes)
		words = strings.Fields(text)
	}
	if w.below(8) == 0 {
		words = slices.Delete(words, 0, 1)
	}
	w.say(fmt.Sprintf("%s $p %s $= %s $.", label, goal, strings.Join(words, " ")))
}

// textOf writes a text of so many assertions behind the first ones.
func textOf(r *rule, items int) string {
	w := &writer{rule: r}
	w.say(`$c w v ( ) $. $v x y z $. fx $f v x $. fy $f v y $. fz $f v z $. vi $a v ( x y ) $. none $a v $. g $a w $. ax $a w x $.
${ $d x y $. ap $a w ( x y ) $. $} ${ wd1 $e w x $. wd2 $e w y $. wd $a w ( x y ) $. $}`)
	for range items {
		for range w.below(4) {
			w.declare()
		}
		w.item()
	}
	return w.text + strings.Repeat("$}\n", w.open)
}

// given makes what stands for a variable: a term of what is active in the target's scope or nothing, perhaps within a term, with a proof, now and then one that is none.
func (p prover) given(variable string) api.Given {
	e := p.term(p.below(4))
	switch p.below(10) {
	case 0:
		e = &term{}
	case 1:
		e = &term{left: &term{}, right: e}
	case 2, 3, 4:
		e = p.term(0)
	}
	g := given(variable, e.text(), strings.Join(p.formed(e), " "))
	if p.below(25) == 0 {
		g = p.spoilt(g)
	}
	return g
}

// spoilt makes what stands for a variable something that perhaps may not.
func (p prover) spoilt(g api.Given) api.Given {
	word := one(p.rule, []string{"?", "zz", "(", ")", "x", "fx", "w", "ax", "none", "u1", "fu1", "h1", ""})
	switch at := p.below(len(g.Proof)); p.below(5) {
	case 0:
		g.Words = append(g.Words, word)
	case 1:
		g.Words = g.Words[:len(g.Words)/2]
	case 2:
		g.Proof[at] = word
	case 3:
		g.Proof = slices.Delete(g.Proof, at, at+1)
	default:
		g.Proof = slices.Insert(g.Proof, at, word)
	}
	return g
}

// orderOf makes an order by a rule.
func orderOf(r *rule, b *base.Base) api.Order {
	theorem, _ := b.At(r.below(b.Count()))
	if !theorem.Theorem && r.below(10) > 0 {
		theorem, _ = b.At(r.below(b.Count()))
	}
	target, _ := b.At(r.below(b.Count()))
	c, _ := b.Behind(target.Number, nil)
	p := prover{rule: r, b: b, c: c}
	o := order(theorem.Label, target.Label)
	for _, h := range theorem.Frame.Hyps {
		if h.Floating && r.below(40) > 0 {
			o.Given = append(o.Given, p.given(b.Name(h.Var)))
		}
	}
	for range r.below(3) {
		g := p.given(one(r, []string{"x", "y", "z", "u1", "w", "zz", ""}))
		o.Given = slices.Insert(o.Given, r.below(len(o.Given)+1), g)
	}
	if r.below(50) == 0 {
		o.Target = one(r, []string{"", "zz", "fx", "h1"})
	}
	return o
}

// 19.1 to 19.7: orders by a rule in texts by a rule; what has an instance has one that stands in the text (see standsHold).
func TestTexts(t *testing.T) {
	r, own, seen := rule(19), 0, map[string]int{}
	for range 60 {
		text := textOf(&r, 6+r.below(14))
		b := loaded(t, text)
		own += ownHolds(t, b)
		for range 60 {
			o := orderOf(&r, b)
			refusal, verdict := holds(t, b, o)
			seen[fmt.Sprint(int(refusal), " ", int(verdict))]++
			if refusal == api.OK {
				i, _ := Build(b, o)
				seen[fmt.Sprint("hypotheses: ", min(len(i.Hyps), 3))]++
				standsHold(t, b, o.Target, i, verdict)
			}
		}
		if t.Failed() {
			t.Fatalf("in the text %s", text)
		}
	}
	if own < 300 {
		t.Errorf("19.5: %d proved theorems: it is hardly tried", own)
	}
	for kind, least := range map[string]int{"0 0": 1000, "140 0": 300, "141 0": 300, "190 0": 100, "191 116": 200, "192 0": 20, "hypotheses: 1": 100, "hypotheses: 2": 50, "hypotheses: 3": 20} {
		if seen[kind] < least {
			t.Errorf("orders that end as %q: %d: it is hardly tried", kind, seen[kind])
		}
	}
}
