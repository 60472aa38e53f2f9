package prune

import (
	"fmt"
	"slices"
	"strings"
	"testing"

	"lemma/api"
	"lemma/base"
	"lemma/fold"
	"lemma/proof"
	"lemma/verify"
)

// writer writes a text by a rule, statement by statement.
type writer struct {
	*rule
	model
	open  int // scopes
	hyps  int // hypotheses
	items int // assertions behind the first ones
}

// between writes what parts two words.
func (w *writer) between() string {
	return one(w.rule, []string{" ", " ", " ", " ", "  ", "\n", "\n\n", "\r\n", "\t", " \f ", " $( x $) ", "\n$( t1 $a w $. $)\n"})
}

// parted writes words, parted in one of many ways.
func (w *writer) parted(words ...string) string {
	text := words[0]
	for _, word := range words[1:] {
		text += w.between() + word
	}
	return text
}

// say writes statements that are no assertions.
func (w *writer) say(text string) {
	w.model = append(w.model, piece{text: w.parted(strings.Fields(text)...) + w.between()})
}

// assert writes an assertion: an axiom, if there are no words of a proof.
func (w *writer) assert(label string, goal string, words ...string) {
	statement := append([]string{label, "$a"}, strings.Fields(goal)...)
	if len(words) > 0 {
		statement[1] = "$p"
		statement = slices.Concat(statement, []string{"$="}, words)
	}
	w.model = append(w.model, piece{text: w.parted(append(statement, "$.")...), label: label, words: words}, piece{text: w.between()})
}

// begin writes the first axioms: how terms are formed, and what is said of them.
func (w *writer) begin() {
	w.say("$c w v ( ) $. $v x y z $. fx $f v x $. fy $f v y $. fz $f v z $.")
	w.assert("vi", "v ( x y )")
	w.assert("g", "w")
	w.say("${ d1 $e w $. d2 $e w $.")
	w.assert("d", "w")
	w.say("$}")
	w.assert("ax", "w x")
	w.say("${ $d x y $.")
	w.assert("ap", "w ( x y )")
	w.say("$} ${ wd1 $e w x $. wd2 $e w y $.")
	w.assert("wd", "w ( x y )")
	w.say("$}")
}

// prover looks at where the text ends now, for the proof of a goal.
func (w *writer) prover(goal string) prover {
	b, fault := base.Load(w.text() + " here $a w $." + strings.Repeat(" $}", w.open))
	if fault != nil {
		panic(fault)
	}
	n, _ := b.Find("here")
	e, _ := b.Read(strings.Fields(goal))
	c, _ := b.Behind(n, e)
	c.Before = n
	return prover{rule: w.rule, b: b, c: c}
}

// hyp writes an essential hypothesis of its own label.
func (w *writer) hyp(said *term) {
	w.hyps++
	w.say(fmt.Sprintf("h%d $e w %s $.", w.hyps, said.text()))
}

// declare writes a bracket, a hypothesis, a variable or variables that are distinct.
func (w *writer) declare() {
	p := w.prover("w")
	switch choice := w.below(8); {
	case choice < 2 && w.open < 3:
		w.say("${")
		w.open++
	case choice < 4 && w.open > 0:
		w.say("$}")
		w.open--
	case choice == 4 && w.open > 0:
		w.hyp(one(w.rule, []*term{nil, p.term(1)}))
	case choice == 5 && w.open > 0:
		w.hyps++
		w.say(fmt.Sprintf("$v u%d $. fu%d $f v u%d $.", w.hyps, w.hyps, w.hyps))
	default:
		if a, b := p.term(0).text(), p.term(0).text(); a != b {
			w.say("$d " + a + " " + b + " $.")
		}
	}
}

// item writes a theorem, or now and then an axiom; of so many theorems one is perhaps none.
func (w *writer) item(oneOf int) {
	label := fmt.Sprint("t", w.items)
	w.items++
	said := one(w.rule, []*term{nil, w.prover("w").term(2), w.prover("w").term(1)})
	goal := "w " + said.text()
	if w.below(6) == 0 {
		w.assert(label, goal)
		return
	}
	p := w.prover(goal)
	words := p.proof(said, 3)
	if w.below(2) == 0 {
		words = w.packed(p, words)
	}
	if w.below(oneOf) == 0 {
		words = w.spoilt(words)
	}
	w.assert(label, goal, words...)
}

// packed writes a proof packed, with labels in the brackets that no letter calls.
func (w *writer) packed(p prover, words []string) []string {
	labels, codes, code := fold.Labels(p.b, p.c, words)
	if code != api.OK {
		return words
	}
	saves := len(p.c.Mandatory) + len(labels)
	many := len(labels)
	for range w.below(3) {
		if label := fmt.Sprint("t", w.below(w.items)); !slices.Contains(labels, label) && label != fmt.Sprint("t", w.items-1) {
			labels = append(labels, label)
		}
	}
	for i := range codes {
		if codes[i] >= saves {
			codes[i] += len(labels) - many
		}
	}
	text, _ := proof.Packed(labels, codes)
	return strings.Fields(text)
}

// spoilt makes a proof one that is perhaps none; it has a word still.
func (w *writer) spoilt(words []string) []string {
	at := w.below(len(words))
	word := one(w.rule, []string{"?", "no", "(", ")", "d", "h1", "here", "A", fmt.Sprint("t", w.below(w.items+3)), fmt.Sprint("t", w.items-1), fmt.Sprint("t", w.items)})
	switch choice := w.below(4); {
	case choice == 0 && at > 0:
		return words[:at]
	case choice == 1 && len(words) > 1:
		return slices.Delete(words, at, at+1)
	case choice == 2:
		words[at] = word
		return words
	}
	return slices.Insert(words, at, word)
}

// textOf writes a text of so many assertions behind the first ones.
func textOf(r *rule, items, oneOf int) model {
	w := &writer{rule: r}
	w.begin()
	for range items {
		for range w.below(3) {
			w.declare()
		}
		w.item(oneOf)
	}
	w.model = append(w.model, piece{text: strings.Repeat(" $}", w.open)})
	return w.model
}

// 18.1 to 18.5: texts by a rule: scopes, hypotheses, distinct variables, theorems that rest on theorems, some of them not proved, comments and blanks of all kinds.
func TestTexts(t *testing.T) {
	r, pairs, seen := rule(18), 0, map[api.Errno]int{}
	for try := range 120 {
		m := textOf(&r, 4+r.below(14), []int{2, 4, 20}[try%3])
		pairs += m.holds(t)
		for _, v := range verify.All(loaded(t, m.text()), 1) {
			seen[v.Code]++
		}
		if t.Failed() {
			t.Fatalf("in the text %s", m.text())
		}
	}
	if pairs < 5000 {
		t.Errorf("%d pairs that do not go with each other: it is hardly tried", pairs)
	}
	for code, least := range map[api.Errno]int{api.OK: 500, api.ErrApart: 20, api.ErrLater: 10, api.ErrUnknown: 20, api.ErrMissing: 10, api.ErrUnder: 10, api.ErrList: 10} {
		if seen[code] < least {
			t.Errorf("the verdict %d came %d times: it is hardly tried", code, seen[code])
		}
	}
}
