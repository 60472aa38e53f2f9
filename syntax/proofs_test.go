package syntax

import (
	"fmt"
	"strings"
	"testing"

	"lemma/api"
	"lemma/base"
	"lemma/stack"
	"lemma/verify"
)

// A push is a label that a proof may have, and what it does with the stack.
type push struct {
	label string
	hyp   *api.Hyp
	frame api.Frame
}

// pushes gives the labels of all leaves and rules, as the base has them.
func (th *theory) pushes(b *base.Base, c api.Context) []push {
	var l []push
	for i := range th.leaves {
		l = append(l, push{label: th.leaves[i].label, hyp: &c.Hyps[i]})
	}
	for _, a := range th.rules {
		n, _ := b.Find(a.label)
		made, _ := b.At(n)
		l = append(l, push{label: a.label, frame: made.Frame})
	}
	return l
}

// run lays a row of labels on a new stack; false, if one of them is refused.
func run(b *base.Base, c api.Context, labels []push) (*stack.Machine, bool) {
	m := stack.New(c, b.IsVar)
	for _, p := range labels {
		code := api.OK
		if p.hyp != nil {
			code = m.Push(p.hyp.Expr)
		} else {
			code = m.Apply(p.frame)
		}
		if code != api.OK {
			return nil, false
		}
	}
	return m, true
}

// shortest tells, for each expression that one of the proofs of up to so many labels proves, how many labels the shortest of these has.
func shortest(b *base.Base, c api.Context, all []push, most int) map[string]int {
	found := map[string]int{}
	rows := [][]push{nil}
	for size := 1; size <= most; size++ {
		var longer [][]push
		for _, row := range rows {
			for _, p := range all {
				next := append(row[:len(row):len(row)], p)
				m, ok := run(b, c, next)
				if !ok {
					continue
				}
				longer = append(longer, next)
				if top, _ := m.Top(); m.Len() == 1 && found[b.Print(top)] == 0 {
					found[b.Print(top)] = size
				}
			}
		}
		rows = longer
	}
	return found
}

// 21.4: no row of labels of leaves and rules that the stack takes is shorter than what is told, and what none of them proves has no derivation of so few.
func TestAllProofs(t *testing.T) {
	r := row(2104)
	expressions, long := 0, 0
	for range 100 {
		const most = 5
		th := r.theory(1+r.below(4), 3)
		b := loaded(t, th.text)
		c := at(t, b, b.Count()-1)
		found := shortest(b, c, th.pushes(b, c), most)
		for words, size := range found {
			if got, code := Least(b, c, read(b, words)); got != size || code != api.OK {
				t.Fatalf("21.4: of %q: %d, %d, and a proof has %d: %s", words, got, code, size, th.text)
			}
			expressions++
			if size > 2 {
				long++
			}
		}
		for range 50 {
			words := r.words(th, 4)
			if got, code := Least(b, c, read(b, words)); code == api.OK && got <= most && found[words] != got {
				t.Fatalf("21.4: of %q: %d, which no proof has: %s", words, got, th.text)
			}
		}
	}
	if expressions < 500 || long < 200 {
		t.Errorf("too few: %d, %d", expressions, long)
	}
}

// term writes a formula of just so many symbols, which can be read in one way alone, with its proof.
func (r *row) term(symbols int) (words, labels []string) {
	v := one(r, []string{"x", "y", "z"})
	switch {
	case symbols == 1:
		return []string{v}, []string{"w" + v}
	case symbols < 5 || r.below(4) == 0:
		words, labels = r.term(symbols - 1)
		return append([]string{"-."}, words...), append(labels, "wn")
	}
	left := 1 + r.below(symbols-4)
	one, by := r.term(left)
	two, with := r.term(symbols - 3 - left)
	words = append(append(append([]string{"("}, one...), "->"), two...)
	return append(words, ")"), append(append(by, with...), "wi")
}

// 21.2, 21.3: a text that can be read in one way alone is read so, up to the longest.
func TestOneWay(t *testing.T) {
	b := loaded(t, "$c wff ( ) -> -. $. $v x y z $. wx $f wff x $. wy $f wff y $. wz $f wff z $. wn $a wff -. x $. wi $a wff ( x -> y ) $. last $a wff ( $.")
	c := at(t, b, b.Count()-1)
	r := row(2131)
	for n := range 31 * 20 {
		words, labels := r.term(1 + n%31)
		sayIs(t, b, c, "wff "+strings.Join(words, " "), answer{strings.Join(labels, " "), 1})
		i := r.below(len(words))
		words[i] = one(&r, []string{"(", ")", "->"})
		if got := says(t, b, c, read(b, "wff "+strings.Join(words, " "))); got != none && !takes(words) {
			t.Errorf("21.2: of %v: %+v", words, got)
		}
	}
}

// takes tells whether words are a formula, from the left, as one reads them by hand.
func takes(words []string) bool {
	rest, ok := formula(words)
	return ok && len(rest) == 0
}

func formula(words []string) ([]string, bool) {
	if len(words) == 0 {
		return nil, false
	}
	switch rest := words[1:]; words[0] {
	case "x", "y", "z":
		return rest, true
	case "-.":
		return formula(rest)
	case "(":
		rest, ok := formula(rest)
		if !ok || len(rest) == 0 || rest[0] != "->" {
			return nil, false
		}
		rest, ok = formula(rest[1:])
		if !ok || len(rest) == 0 || rest[0] != ")" {
			return nil, false
		}
		return rest[1:], true
	}
	return nil, false
}

// 21.4: a proof may need more of the stack than there is: its labels are told none the less.
func TestDeep(t *testing.T) {
	// Each rule has 30 empty strings ahead of its last part, which is of the rule before it.
	var empty strings.Builder
	for i := range 30 {
		fmt.Fprintf(&empty, " e%d", i)
	}
	var text strings.Builder
	text.WriteString("$c u k0 l $. n $a u $. o $a k0 l $. $v" + empty.String() + " $. ")
	for i := range 30 {
		fmt.Fprintf(&text, "h%d $f u e%d $. ", i, i)
	}
	for i := range 40 {
		fmt.Fprintf(&text, "$c k%d $. $v v%d $. hv%d $f k%d v%d $. r%d $a k%d%s v%d $. ", i+1, i, i, i, i, i, i+1, empty.String(), i)
	}
	b := loaded(t, text.String()+"last $a u l $.")
	c := at(t, b, b.Count()-1)
	for i := range 41 {
		c.Goal = read(b, fmt.Sprintf("k%d l", i))
		says(t, b, c, c.Goal)
		labels, _ := Prove(b, c, c.Goal)
		verdict := verify.Text(b, c, verify.Words(labels), api.Token{Text: "$."})
		if len(labels) != 1+31*i || (verdict.Code == api.ErrDeep) != (i > 1) {
			t.Errorf("21.4: of %d rules: %d labels, %+v", i, len(labels), verdict)
		}
	}
}
