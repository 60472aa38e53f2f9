package tree

import (
	"slices"
	"strings"
	"testing"

	"lemma/api"
	"lemma/base"
)

// reading is a second reading of Of: labels and pairs are looked for one by one, lists are formed, the stack has the numbers of nodes alone.
type reading struct {
	b      *base.Base
	c      api.Context
	nodes  []api.Node
	proves []api.Expr
	stack  []int
	saved  []int
}

// read does all steps of a proof; false: ErrTree.
func (r *reading) read(p api.Proof) bool {
	if p.Form != api.FormPacked {
		for _, word := range p.Labels {
			e, f := r.find(word.Text)
			if word.Text == "?" || !r.step(word.Text, e, f) {
				return false
			}
		}
		return len(r.stack) == 1
	}
	for i, word := range p.Labels {
		e, f := r.find(word.Text)
		if e == nil && f == nil || isMandatory(r.c, word.Text) || slices.ContainsFunc(p.Labels[:i], func(w api.Token) bool { return w.Text == word.Text }) {
			return false
		}
	}
	for i := range p.Codes {
		if !r.code(p, i) {
			return false
		}
	}
	return !p.Broken && !p.Cut && len(r.stack) == 1
}

func isMandatory(c api.Context, label string) bool {
	return slices.ContainsFunc(c.Mandatory, func(h api.Hyp) bool { return h.Label == label })
}

// find gives a hypothesis's expression, never nil, or an assertion's frame; neither: the label is none here.
func (r *reading) find(label string) (api.Expr, *api.Frame) {
	for _, h := range r.c.Hyps {
		if h.Label == label {
			return append(api.Expr{}, h.Expr...), nil
		}
	}
	for n := range min(r.b.Count(), max(r.c.Before, 0)) {
		if a, _ := r.b.At(n); a.Label == label {
			return nil, &a.Frame
		}
	}
	return nil, nil
}

func (r *reading) code(p api.Proof, i int) bool {
	n, listed, named := p.Codes[i].N, len(r.c.Mandatory), len(r.c.Mandatory)+len(p.Labels)
	switch {
	case n < -1 || n == -1 && (i == 0 || p.Codes[i-1].N == -1) || n >= named+len(r.saved):
		return false
	case n == -1:
		r.saved = append(r.saved, r.stack[len(r.stack)-1])
		return true
	case n >= named:
		r.stack = append(r.stack, r.saved[n-named])
		return true
	case n < listed:
		h := r.c.Mandatory[n]
		return r.step(h.Label, append(api.Expr{}, h.Expr...), nil)
	}
	label := p.Labels[n-listed].Text
	e, f := r.find(label)
	return r.step(label, e, f)
}

func (r *reading) step(label string, e api.Expr, f *api.Frame) bool {
	if e == nil && f == nil {
		return false
	}
	node := api.Node{Label: label}
	if f != nil {
		at := len(r.stack) - len(f.Hyps)
		if at < 0 {
			return false
		}
		var last []api.Expr
		for _, n := range r.stack[at:] {
			node.Kids = append(node.Kids, n)
			last = append(last, r.proves[n])
		}
		made, sound := concludes(*f, last, r.c.Pairs, r.b.IsVar)
		if !sound {
			return false
		}
		r.stack, e = r.stack[:at], made
	}
	r.stack = append(r.stack, len(r.nodes))
	r.nodes, r.proves = append(r.nodes, node), append(r.proves, e)
	return true
}

// concludes tells what a frame makes of as many expressions as it has hypotheses.
func concludes(f api.Frame, last []api.Expr, pairs []api.Pair, vars func(int) bool) (api.Expr, bool) {
	put := map[int]api.Expr{}
	for i, h := range f.Hyps {
		if h.Floating {
			if len(last[i]) == 0 || last[i][0] != h.Expr[0] {
				return nil, false
			}
			put[h.Var] = last[i][1:]
		}
	}
	for i, h := range f.Hyps {
		if !h.Floating && !slices.Equal(formed(h.Expr, put), last[i]) {
			return nil, false
		}
	}
	for _, p := range f.Pairs {
		for _, a := range put[p.A] {
			for _, b := range put[p.B] {
				had := slices.Contains(pairs, api.Pair{A: a, B: b}) || slices.Contains(pairs, api.Pair{A: b, B: a})
				if vars(a) && vars(b) && (a == b || !had) {
					return nil, false
				}
			}
		}
	}
	goal := formed(f.Goal, put)
	return goal, len(goal) <= 200
}

func formed(e api.Expr, put map[int]api.Expr) api.Expr {
	made := api.Expr{}
	for _, x := range e {
		if string, bound := put[x]; bound {
			made = append(made, string...)
		} else {
			made = append(made, x)
		}
	}
	return made
}

// models holds Of against the second reading, and against the run of its form; where the context's mandatory hypotheses are the first of their labels, Conclude too (P13.9). It tells what the run says.
func models(t *testing.T, b *base.Base, c api.Context, p api.Proof) api.Errno {
	t.Helper()
	r := &reading{b: b, c: c}
	sound := r.read(p)
	l, code := Of(b, c, p)
	if sound != (code == api.OK) || sound && text(l) != text(r.nodes) || !sound && (len(l) > 0 || code != api.ErrTree) {
		t.Fatalf("P13.1: Of(%.300s): %.300q, %d, want %.300q, %v", shown(p), text(l), code, text(r.nodes), sound)
	}
	run := judged(b, c, p)
	limited := run == api.ErrDeep || run == api.ErrSteps
	if sound && run != api.OK && run != api.ErrGoal && !limited || !sound && (run == api.OK || run == api.ErrGoal) {
		t.Fatalf("P13.9: Of(%.300s): %d, but the run says %d", shown(p), code, run)
	}
	if sound && firstOfLabel(c) {
		proves(t, r, p, l, run, limited)
	}
	return run
}

// firstOfLabel tells whether each mandatory hypothesis is the first of its label.
func firstOfLabel(c api.Context) bool {
	for _, h := range c.Mandatory {
		at := slices.IndexFunc(c.Hyps, func(x api.Hyp) bool { return x.Label == h.Label })
		if at < 0 || !slices.Equal(c.Hyps[at].Expr, h.Expr) {
			return false
		}
	}
	return true
}

// proves holds what P13.9 says of a list that Of answered, and what P13.2 says of it.
func proves(t *testing.T, r *reading, p api.Proof, l []api.Node, run api.Errno, limited bool) {
	t.Helper()
	proved, code := Conclude(r.b, r.c, l)
	if code != api.OK || !slices.EqualFunc(proved, r.proves, func(a, b api.Expr) bool { return slices.Equal(a, b) }) {
		t.Fatalf("P13.2: Conclude(%.300q): %.300v, %d, want %.300v", text(l), proved, code, r.proves)
	}
	if isGoal := slices.Equal(proved[len(l)-1], r.c.Goal); !limited && isGoal != (run == api.OK) {
		t.Fatalf("P13.9: %.300q proves the goal: %v, but the run of %.300s says %d", text(l), isGoal, shown(p), run)
	}
	labels, small := Labels(l)
	if !small {
		return
	}
	again, code := Of(r.b, r.c, api.Proof{Form: api.FormPlain, Labels: tokens(labels...)})
	if code != api.OK || !Same(again, l) || len(again) != len(labels) {
		t.Fatalf("P13.9: the labels %.300q of %.300q denote %.300q, %d", labels, text(l), text(again), code)
	}
}

// modelsBoth is models in the context as it is, and, where something is proved, in one whose goal that is.
func modelsBoth(t *testing.T, b *base.Base, c api.Context, p api.Proof, seen map[api.Errno]int) {
	t.Helper()
	seen[models(t, b, c, p)]++
	if r := (&reading{b: b, c: c}); r.read(p) {
		c.Goal = r.proves[len(r.nodes)-1]
		seen[models(t, b, c, p)]++
	}
}

// small is a text with an assertion of each kind, and contexts with and without hypotheses and pairs.
const small = `$c w p $. $v x y $. wx $f w x $. wy $f w y $.
none $a w $.
${ $d x y $. two $a w x y $. $}
${ hx $e p x $. hxy $a p x x $. $}
${ $d x y $. hy $e p y $. in $p w x y $= ? $. $}
${ e1 $e p y $. deep $p p y y y y $= ? $. $}
out $p w x x $= ? $.`

// smallContexts are those of the text's assertions, and some that nobody but a test makes.
func smallContexts(t *testing.T, b *base.Base) []api.Context {
	var all []api.Context
	for _, label := range []string{"two", "hxy", "in", "deep", "out"} {
		all = append(all, contextOf(t, b, label))
	}
	c := contextOf(t, b, "in")
	c.Hyps = append([]api.Hyp{{Label: "two", Expr: c.Goal}, {Label: "?", Expr: c.Goal}}, c.Hyps...)
	c.Before = 1
	all = append(all, c)
	c = contextOf(t, b, "out")
	c.Mandatory = []api.Hyp{{Label: "none", Expr: []int{0, 2, 2}}, {Label: "hx", Expr: []int{0}}, {Label: "none"}}
	return append(all, c, api.Context{Before: 4, Goal: []int{0}})
}

// came holds each of the codes to have come often enough.
func came(t *testing.T, seen map[api.Errno]int, least int, codes ...api.Errno) {
	t.Helper()
	for _, code := range codes {
		if seen[code] < least {
			t.Errorf("the code %d came %d times: it is hardly tried", code, seen[code])
		}
	}
}

// P13.1, P13.2, P13.9: all short plain proofs, in several contexts.
func TestShortPlain(t *testing.T) {
	b := loaded(t, small)
	contexts := smallContexts(t, b)
	seen := map[api.Errno]int{}
	proofs := append(shortLists(5, "wx", "wy", "none", "two", "hxy", "e1"), shortLists(3, "wx", "two", "hx", "hxy", "in", "hy", "?", "z", "out")...)
	for _, words := range proofs {
		p := api.Proof{Form: api.FormPlain, Labels: tokens(words...)}
		for _, c := range contexts {
			modelsBoth(t, b, c, p, seen)
		}
	}
	came(t, seen, 20, api.OK, api.ErrGoal, api.ErrLeft, api.ErrMissing, api.ErrUnknown, api.ErrHidden, api.ErrLater, api.ErrUnder, api.ErrKind, api.ErrHyp, api.ErrApart)
}

// P13.1, P13.2, P13.9: all short brackets, whole and broken, and all short lists of codes, cut and not, in several contexts.
func TestShortPacked(t *testing.T) {
	b := loaded(t, small)
	contexts := smallContexts(t, b)
	seen := map[api.Errno]int{}
	for _, words := range shortLists(3, "wx", "wy", "none", "two", "hx", "hxy", "in", "hy", "?", "z") {
		for _, c := range contexts {
			for _, broken := range []bool{false, true} {
				seen[models(t, b, c, api.Proof{Form: api.FormPacked, Labels: tokens(words...), Codes: coded(0), Broken: broken})]++
			}
		}
	}
	for _, codes := range append(shortLists(5, 0, 1, 2, 3, 4, api.CodeSave), shortLists(4, 0, 2, 3, 5, api.CodeSave, api.CodeOpen, api.CodeBad)...) {
		for i, words := range [][]string{nil, {"two", "none"}, {"hxy", "wy"}} {
			p := api.Proof{Form: api.FormPacked, Labels: tokens(words...), Codes: coded(codes...), Cut: len(codes)%3 == 1 && i == 0}
			for _, c := range contexts {
				modelsBoth(t, b, c, p, seen)
			}
		}
	}
	came(t, seen, 20, api.OK, api.ErrGoal, api.ErrLeft, api.ErrList, api.ErrUnknown, api.ErrHidden, api.ErrLater, api.ErrNumber, api.ErrSave, api.ErrCut, api.ErrMissing, api.ErrLetters, api.ErrUnder, api.ErrKind, api.ErrHyp, api.ErrApart)
}

// P13.2: all short lists of nodes, sound or not: what each proves hangs on its kids alone.
func TestShortNodes(t *testing.T) {
	b := loaded(t, small)
	labels := []string{"wx", "wy", "none", "two", "hxy", "e1"}
	var all [][]api.Node
	for _, first := range shortLists(2, labels...) {
		var l []api.Node
		for _, label := range first {
			l = append(l, api.Node{Label: label})
		}
		for _, label := range labels {
			for _, kids := range shortLists(2, -1, 0, 1, 2) {
				all = append(all, append(slices.Clone(l), api.Node{Label: label, Kids: kids}))
			}
		}
	}
	sound := 0
	for _, c := range smallContexts(t, b) {
		for _, l := range all {
			r := &reading{b: b, c: c}
			want := api.OK
			for n := range l {
				if !r.node(l[n]) {
					r.proves, want = nil, api.ErrTree
					break
				}
				sound++
			}
			proved, code := Conclude(b, c, l)
			if code != want || !slices.EqualFunc(proved, r.proves, func(a, b api.Expr) bool { return slices.Equal(a, b) }) {
				t.Fatalf("P13.2: Conclude(%q) in %v: %v, %d, want %v, %d", text(l), c, proved, code, r.proves, want)
			}
		}
	}
	if sound < 1000 {
		t.Errorf("%d nodes were sound: hardly tried", sound)
	}
}

// node takes a node of a list: what it leans on is laid on an empty stack.
func (r *reading) node(x api.Node) bool {
	e, f := r.find(x.Label)
	for _, kid := range x.Kids {
		if kid < 0 || kid >= len(r.nodes) {
			return false
		}
	}
	if e != nil && len(x.Kids) > 0 || f != nil && len(x.Kids) != len(f.Hyps) {
		return false
	}
	r.stack = slices.Clone(x.Kids)
	return r.step(x.Label, e, f)
}

// growing is a text in which strings double, so that long ones come soon, and stacks fill.
const growing = `$c w p a $. $v x y z $. wx $f w x $. wy $f w y $. wz $f w z $.
wa $a w a $.
dbl $a w x x $.
cat $a w x y $.
px $a p x $.
${ hx $e p x $. hy $e p y $. both $a p x y $. $}
${ $d x y $. far $a w x a y $. $}
${ $d x y $. $d y z $. t $p w a a $= ? $. $}`

// grow makes a long list of codes one by one: those that would offend are left out. At last what is left is laid one behind the other by cat, the first label, as far as that goes.
func (r *rule) grow(b *base.Base, c api.Context, p api.Proof, many int) []api.Code {
	m := &reading{b: b, c: c}
	known := len(c.Mandatory) + len(p.Labels)
	add := func(n int) bool {
		p.Codes = append(p.Codes, api.Code{N: n})
		sound := m.code(p, len(p.Codes)-1)
		if !sound {
			p.Codes = p.Codes[:len(p.Codes)-1]
		}
		return sound
	}
	for !add(r.below(known)) { // so that there is one
	}
	for range many {
		n := r.below(known)
		switch saved := len(m.saved); r.below(8) {
		case 0:
			n = api.CodeSave
		case 1, 2:
			n = known + saved - r.below(min(saved, 4)+1)
		}
		add(n)
	}
	for len(m.stack) > 1 && add(len(c.Mandatory)) {
	}
	return p.Codes
}

// P13.1, P13.2, P13.9: long packed proofs by a rule, many of them deep; as they are, with one code another, and as the plain proof of their labels.
func TestLongByRule(t *testing.T) {
	b := loaded(t, growing)
	r := rule(31)
	seen, plain := map[api.Errno]int{}, map[api.Errno]int{}
	called := 0
	for try := range 1500 {
		c := contextOf(t, b, "t")
		words := []string{"cat", "wx", "wy", "wa", "far", "wz", "dbl", "px", "both"}
		if try%4 > 0 {
			words = words[:7] // all strings can be laid one behind the other
		}
		p := api.Proof{Form: api.FormPacked, Labels: tokens(words...)}
		p.Codes = r.grow(b, c, p, 1+r.below(150))
		m := &reading{b: b, c: c}
		if m.read(p) && try%8 > 1 {
			c.Goal = m.proves[len(m.nodes)-1]
		}
		seen[models(t, b, c, p)]++
		if labels, small := Labels(m.nodes); small && len(m.stack) == 1 {
			plain[models(t, b, c, api.Proof{Labels: tokens(labels...)})]++
			if len(labels) > len(m.nodes) {
				called++
			}
		}
		p.Codes[r.below(len(p.Codes))].N = r.below(len(p.Labels)+4) - 1
		seen[models(t, b, c, p)]++
	}
	came(t, seen, 10, api.OK, api.ErrGoal, api.ErrLeft, api.ErrSave, api.ErrUnder, api.ErrKind, api.ErrHyp, api.ErrApart, api.ErrDeep)
	came(t, plain, 10, api.OK, api.ErrGoal, api.ErrDeep)
	if called < 100 {
		t.Errorf("%d with a back reference: hardly tried", called)
	}
}

// logic is a text of short strings, in which much can be proved.
const logic = `$c w p a $. $v x y z $. wx $f w x $. wy $f w y $. wz $f w z $.
wa $a w a $.
wn $a w $.
ww $a w x y $.
pa $a p x a $.
${ hx $e p x $. hy $e p y $. join $a p x y $. $}
${ hz $e p z x $. swap $a p x z $. $}
${ $d x y $. hd $e p x $. apart $a p y $. $}
${ $d x y $. $d x z $. e1 $e p x $. here $p p x $= ? $. $}`

// grown gives a list of nodes in a context, each by an assertion with parts that were made before.
func grown(b *base.Base, c api.Context, r *rule, many int) *reading {
	m := &reading{b: b, c: c}
	for _, h := range c.Hyps {
		m.node(api.Node{Label: h.Label})
	}
	for len(m.nodes) < many {
		a, _ := b.At(r.below(c.Before))
		node := api.Node{Label: a.Label}
		put := map[int]api.Expr{}
		for _, h := range a.Frame.Hyps {
			node.Kids = append(node.Kids, m.fitting(h, put, r))
		}
		if m.node(node) && len(m.proves[len(m.nodes)-1]) > 6 {
			m.nodes, m.proves = m.nodes[:len(m.nodes)-1], m.proves[:len(m.proves)-1]
		}
	}
	return m
}

// fitting picks a node that proves what a hypothesis asks for, where there is one; the strings of the floating ones are noted in put.
func (r *reading) fitting(h api.Hyp, put map[int]api.Expr, by *rule) int {
	var fit []int
	for n, e := range r.proves {
		if h.Floating && e[0] == h.Expr[0] || !h.Floating && slices.Equal(e, formed(h.Expr, put)) {
			fit = append(fit, n)
		}
	}
	if len(fit) == 0 {
		return by.below(len(r.nodes))
	}
	n := fit[by.below(len(fit))]
	if h.Floating {
		put[h.Var] = r.proves[n][1:]
	}
	return n
}

// P13.9: derivations that are made as lists, each of its nodes as a proof: the labels as a plain one run to what the node proves, and denote it.
func TestDerivations(t *testing.T) {
	b := loaded(t, logic)
	c, _ := b.Behind(b.Count()-1, nil)
	r := rule(32)
	m := grown(b, c, &r, 600)
	proved, code := Conclude(b, c, m.nodes)
	if code != api.OK || !slices.EqualFunc(proved, m.proves, func(a, b api.Expr) bool { return slices.Equal(a, b) }) {
		t.Fatalf("P13.2: %.300q: %d", text(m.nodes), code)
	}
	seen := map[api.Errno]int{}
	longest := 0
	for n := range m.nodes {
		l := m.nodes[:n+1]
		c, _ := b.Behind(b.Count()-1, m.proves[n])
		shared := Share(l)
		if told, code := Conclude(b, c, shared); code != api.OK || !slices.Equal(told[len(told)-1], m.proves[n]) {
			t.Fatalf("P13.6: %q, shared, is no derivation of %v: %d", text(shared), m.proves[n], code)
		}
		labels, small := Labels(l)
		if !small {
			continue
		}
		longest = max(longest, len(labels))
		again, code := Of(b, c, parsed(strings.Join(labels, " ")))
		if code != api.OK || !Same(again, l) || text(Share(again)) != text(shared) {
			t.Fatalf("P13.9: %q denotes %q, %d", labels, text(again), code)
		}
		seen[models(t, b, c, api.Proof{Form: api.FormPlain, Labels: tokens(labels...)})]++
	}
	if seen[api.OK] < 100 || seen[api.OK]+seen[api.ErrDeep] != len(slices.Collect(smallOnes(m.nodes))) || longest < 100 {
		t.Errorf("P13.9: the runs said %v; the longest has %d labels", seen, longest)
	}
}

// smallOnes goes through the nodes that can be unfolded.
func smallOnes(l []api.Node) func(func(int) bool) {
	return func(yield func(int) bool) {
		for n := range l {
			if Size(l[:n+1]) <= 2000 && !yield(n) {
				return
			}
		}
	}
}
