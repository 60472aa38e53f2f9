package inst

import (
	"fmt"
	"reflect"
	"slices"
	"strings"
	"testing"

	"lemma/api"
	"lemma/base"
	"lemma/proof"
	"lemma/scan"
	"lemma/stack"
	"lemma/tree"
	"lemma/verify"
)

// wordsOf gives an expression's symbols by their names.
func wordsOf(b *base.Base, e api.Expr) []string { return strings.Fields(b.Print(e)) }

// labelled looks for an assertion label by label.
func labelled(b *base.Base, label string) (api.Assertion, bool) {
	for n := range b.Count() {
		if a, _ := b.At(n); a.Label == label {
			return a, true
		}
	}
	return api.Assertion{}, false
}

// strung is what stands for variables: words by a name.
type strung map[string][]string

func (s strung) put(words []string) []string {
	var made []string
	for _, word := range words {
		if string, bound := s[word]; bound {
			made = append(made, string...)
		} else {
			made = append(made, word)
		}
	}
	return made
}

// broken tells whether the strings of a pair break it where pairs are had.
func (s strung) broken(b *base.Base, p api.Pair, have []api.Pair) bool {
	for _, x := range s[b.Name(p.A)] {
		for _, y := range s[b.Name(p.B)] {
			m, _ := b.Number(x)
			n, _ := b.Number(y)
			had := slices.Contains(have, api.Pair{A: m, B: n}) || slices.Contains(have, api.Pair{A: n, B: m})
			if b.IsVar(m) && b.IsVar(n) && (m == n || !had) {
				return true
			}
		}
	}
	return false
}

// run is a second reading of a plain proof's run, by words, in the scope of an assertion widened by hypotheses, at the end of the base.
type run struct {
	b       *base.Base
	hyps    []api.Hyp
	pairs   []api.Pair
	entries [][]string
}

// of tells how the run of labels for a goal ends, and at the label of which number (-1: behind them).
func (r *run) of(labels, goal []string) (api.Errno, int) {
	for i, label := range labels {
		if i == 4000 {
			return api.ErrSteps, i
		}
		if code := r.step(label); code != api.OK {
			return code, i
		}
	}
	switch {
	case len(r.entries) != 1:
		return api.ErrLeft, -1
	case !slices.Equal(r.entries[0], goal):
		return api.ErrGoal, -1
	}
	return api.OK, -1
}

func (r *run) lay(words []string) api.Errno {
	if len(r.entries) == 40 {
		return api.ErrDeep
	}
	r.entries = append(r.entries, words)
	return api.OK
}

func (r *run) step(label string) api.Errno {
	for _, h := range r.hyps {
		if h.Label == label {
			return r.lay(wordsOf(r.b, h.Expr))
		}
	}
	a, found := labelled(r.b, label)
	switch {
	case label == "?":
		return api.ErrMissing
	case !found && r.b.Taken(label):
		return api.ErrHidden
	case !found:
		return api.ErrUnknown
	case len(r.entries) < len(a.Frame.Hyps):
		return api.ErrUnder
	}
	return r.apply(a.Frame)
}

func (r *run) apply(f api.Frame) api.Errno {
	at := len(r.entries) - len(f.Hyps)
	last, s := r.entries[at:], strung{}
	for i, h := range f.Hyps {
		if h.Floating {
			if len(last[i]) == 0 || last[i][0] != r.b.Name(h.Expr[0]) {
				return api.ErrKind
			}
			s[r.b.Name(h.Var)] = last[i][1:]
		}
	}
	for i, h := range f.Hyps {
		if !h.Floating && !slices.Equal(s.put(wordsOf(r.b, h.Expr)), last[i]) {
			return api.ErrHyp
		}
	}
	for _, p := range f.Pairs {
		if s.broken(r.b, p, r.pairs) {
			return api.ErrApart
		}
	}
	made := s.put(wordsOf(r.b, f.Goal))
	if len(made) > 200 {
		return api.ErrTooLong
	}
	r.entries = r.entries[:at]
	return r.lay(made)
}

// strings gives what an order's givens put in the place of the theorem's variables, and the proofs, or the first variable that is refused.
func stringsOf(b *base.Base, theorem, target api.Assertion, o api.Order) (strung, map[string][]string, string) {
	s, proofs := strung{}, map[string][]string{}
	for _, h := range theorem.Frame.Hyps {
		if !h.Floating {
			continue
		}
		name, said := b.Name(h.Var), false
		for _, g := range o.Given {
			if g.Var != name {
				continue
			}
			known := !slices.ContainsFunc(g.Words, func(word string) bool { _, there := b.Number(word); return !there })
			r := run{b: b, hyps: target.Scope.Hyps, pairs: target.Scope.Pairs}
			code, _ := r.of(g.Proof, append([]string{b.Name(h.Expr[0])}, g.Words...))
			said = known && len(g.Words) < 200 && code == api.OK
			s[name], proofs[name] = g.Words, g.Proof
			break
		}
		if !said {
			return nil, nil, name
		}
	}
	return s, proofs, ""
}

// expected is a second reading of Build: label by label and word by word. Its plan is what the instance is, or would be but for the pairs and the limits.
func expected(b *base.Base, o api.Order) (plan, api.Refusal) {
	theorem, found := labelled(b, o.Theorem)
	target, reached := labelled(b, o.Target)
	switch {
	case !found || !theorem.Theorem:
		return plan{}, bare(api.ErrNone)
	case verify.Text(b, api.Context{Hyps: theorem.Scope.Hyps, Pairs: theorem.Scope.Pairs, Mandatory: theorem.Frame.Hyps, Before: theorem.Number, Goal: theorem.Frame.Goal}, theorem.Proof, theorem.End).Code != api.OK:
		return plan{}, bare(api.ErrUnproved)
	case !reached:
		return plan{}, bare(api.ErrTarget)
	}
	s, proofs, bad := stringsOf(b, theorem, target, o)
	if bad != "" {
		return plan{}, syntax(bad)
	}
	made := planOf(b, theorem, s, proofs)
	for _, p := range theorem.Frame.Pairs {
		if s.broken(b, p, target.Scope.Pairs) {
			return made, distinct(b.Name(p.A), b.Name(p.B))
		}
	}
	for _, said := range append(slices.Clone(made.said), made.goal) {
		if len(said) > 200 {
			return made, bare(api.ErrTooLong)
		}
	}
	return made, api.Refusal{}
}

// plan is an instance by words.
type plan struct {
	labels []string
	said   [][]string
	goal   []string
	proof  []string
}

func planOf(b *base.Base, theorem api.Assertion, s strung, proofs map[string][]string) plan {
	made, k := plan{goal: s.put(wordsOf(b, theorem.Frame.Goal))}, 0
	for _, h := range theorem.Frame.Hyps {
		if h.Floating {
			made.proof = append(made.proof, proofs[b.Name(h.Var)]...)
			continue
		}
		k++
		for b.Taken(fmt.Sprint("inst.", k)) {
			k++
		}
		label := fmt.Sprint("inst.", k)
		made.labels = append(made.labels, label)
		made.said = append(made.said, s.put(wordsOf(b, h.Expr)))
		made.proof = append(made.proof, label)
	}
	made.proof = append(made.proof, theorem.Label)
	return made
}

// instance gives the plan as an instance.
func (p plan) instance(b *base.Base) api.Instance {
	i := api.Instance{Proof: p.proof}
	i.Goal, _ = b.Read(p.goal)
	for k, label := range p.labels {
		e, _ := b.Read(p.said[k])
		i.Hyps = append(i.Hyps, api.Hyp{Label: label, Var: -1, Expr: e})
	}
	return i
}

// copiedOrder gives an order in memory of its own.
func copiedOrder(o api.Order) api.Order {
	o.Given = slices.Clone(o.Given)
	for i, g := range o.Given {
		o.Given[i].Words, o.Given[i].Proof = slices.Clone(g.Words), slices.Clone(g.Proof)
	}
	return o
}

// holds holds an order's answer against the second reading, and against what the promises say of it. It tells the refusal, and the verdict on the proof.
func holds(t *testing.T, b *base.Base, o api.Order) (api.Errno, api.Errno) {
	t.Helper()
	kept := copiedOrder(o)
	i, no := Build(b, o)
	want, refusal := expected(b, o)
	if !reflect.DeepEqual(o, kept) {
		t.Errorf("19.7: Build changed its order into %+v from %+v", o, kept)
	}
	if no != refusal {
		t.Errorf("19.1: Build(%+v) refuses by %+v, want %+v", o, no, refusal)
		return no.Code, api.OK
	}
	if no.Code == api.ErrDistinct {
		return no.Code, apartHolds(t, b, o, want)
	}
	if no != (api.Refusal{}) {
		if len(i.Hyps)+len(i.Goal)+len(i.Proof) > 0 {
			t.Errorf("19.1: Build(%+v): %+v beside %+v", o, i, no)
		}
		return no.Code, api.OK
	}
	instanceHolds(t, b, o, i, want)
	return api.OK, acceptedHolds(t, b, o, i)
}

// instanceHolds holds an instance against the second reading, its labels to be new names (19.6), and its proof to name what 19.4 says.
func instanceHolds(t *testing.T, b *base.Base, o api.Order, i api.Instance, want plan) {
	t.Helper()
	if made := want.instance(b); shown(b, i) != shown(b, made) || !slices.Equal(i.Proof, made.Proof) || !slices.Equal(i.Goal, made.Goal) {
		t.Errorf("19.1: Build(%+v): %q, want %q", o, shown(b, i), shown(b, made))
	}
	had := map[string]bool{}
	for _, h := range i.Hyps {
		if h.Floating || h.Var != -1 {
			t.Errorf("19.1: Build(%+v): a new hypothesis that is not essential: %+v", o, h)
		}
		if had[h.Label] || b.Taken(h.Label) || !scan.Name(h.Label) {
			t.Errorf("19.6: Build(%+v): the new label %q", o, h.Label)
		}
		had[h.Label] = true
	}
	theorem, _ := labelled(b, o.Theorem)
	names, named := map[string]bool{o.Theorem: true}, map[string]bool{}
	for _, h := range theorem.Frame.Hyps {
		first := slices.IndexFunc(o.Given, func(g api.Given) bool { return h.Floating && g.Var == b.Name(h.Var) })
		if first >= 0 {
			for _, label := range o.Given[first].Proof {
				if _, asserted := b.Find(label); asserted {
					names[label] = true
				}
			}
		}
	}
	for _, label := range i.Proof {
		if _, asserted := b.Find(label); asserted {
			named[label] = true
		}
	}
	if !reflect.DeepEqual(names, named) {
		t.Errorf("19.4: Build(%+v): the proof names %v, want %v", o, named, names)
	}
}

// acceptedHolds holds an instance's proof to be accepted where it stands (19.2), by the machine, by the derivation that it denotes and by the second reading. It tells the verdict.
func acceptedHolds(t *testing.T, b *base.Base, o api.Order, i api.Instance) api.Errno {
	t.Helper()
	whereHolds(t, b, o.Target, i)
	c, _ := Where(b, o.Target, i)
	p := proof.Parse(verify.Words(i.Proof), api.Token{})
	verdict := stack.Run(b, c, p)
	target, _ := labelled(b, o.Target)
	r := run{b: b, hyps: slices.Concat(target.Scope.Hyps, i.Hyps), pairs: target.Scope.Pairs}
	code, _ := r.of(i.Proof, wordsOf(b, i.Goal))
	if verdict.Code != code || code != api.OK && code != api.ErrDeep && code != api.ErrSteps {
		t.Errorf("19.2: the instance %q of %+v: the verdict %d, want %d", shown(b, i), o, verdict.Code, code)
	}
	nodes, code := tree.Of(b, c, p)
	if code != api.OK {
		t.Errorf("19.2: the instance %q of %+v denotes no derivation: %d", shown(b, i), o, code)
		return verdict.Code
	}
	proved, code := tree.Conclude(b, c, nodes)
	if code != api.OK || !slices.Equal(proved[len(proved)-1], i.Goal) {
		t.Errorf("19.2: the instance %q of %+v denotes no derivation of its goal: %d", shown(b, i), o, code)
	}
	return verdict.Code
}

// apartHolds holds an order that a pair refuses to be refused rightly (19.3): the proof that would be the instance's has that verdict. It tells it.
func apartHolds(t *testing.T, b *base.Base, o api.Order, would plan) api.Errno {
	t.Helper()
	i := would.instance(b)
	c, _ := Where(b, o.Target, i)
	tokens := verify.Words(i.Proof)
	for k := range tokens {
		tokens[k].At.Off = k
	}
	verdict := stack.Run(b, c, api.Proof{Form: api.FormPlain, Labels: tokens})
	apart := verdict.Code == api.ErrApart && verdict.At.At.Off == len(tokens)-1
	if !apart && verdict.Code != api.ErrDeep && verdict.Code != api.ErrSteps {
		t.Errorf("19.3: the proof %q of %+v: %+v", i.Proof, o, verdict)
	}
	return verdict.Code
}

// whereHolds holds a context against a second reading of Where.
func whereHolds(t *testing.T, b *base.Base, label string, i api.Instance) {
	t.Helper()
	c, code := Where(b, label, i)
	target, found := labelled(b, label)
	if !found {
		if code != api.ErrTarget || !reflect.DeepEqual(c, api.Context{}) {
			t.Errorf("19.1: Where(%q): %+v, %d, want ErrTarget", label, c, code)
		}
		return
	}
	hyps := slices.Concat(target.Scope.Hyps, i.Hyps)
	said := slices.Clone(i.Goal)
	for _, h := range hyps {
		if !h.Floating {
			said = append(said, h.Expr...)
		}
	}
	var mandatory []api.Hyp
	for _, h := range hyps {
		if !h.Floating || slices.Contains(said, h.Var) {
			mandatory = append(mandatory, h)
		}
	}
	want := api.Context{Hyps: hyps, Pairs: target.Scope.Pairs, Mandatory: mandatory, Before: b.Count(), Goal: i.Goal}
	if code != api.OK || fmt.Sprint(c) != fmt.Sprint(want) {
		t.Errorf("19.1: Where(%q, %+v): %+v, %d, want %+v", label, i, c, code, want)
	}
}
