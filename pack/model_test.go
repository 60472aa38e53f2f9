package pack

import (
	"slices"
	"testing"

	"lemma/api"
	"lemma/base"
)

// model is a second reading of the chapter and of R7 and R9: it has no machine below it; lists are formed, and labels and pairs looked for one by one.
type model struct {
	b       *base.Base
	c       api.Context
	entries []api.Expr
	saved   []api.Expr
	peak    int
	count   int
}

func (m *model) verdict(code api.Errno, at api.Token) api.Verdict {
	return api.Verdict{Code: code, At: at, Count: m.count, Peak: m.peak}
}

// follow is what Run is to answer.
func follow(b *base.Base, c api.Context, p api.Proof) api.Verdict {
	m := &model{b: b, c: c}
	return m.follow(p)
}

func (m *model) follow(p api.Proof) api.Verdict {
	if p.Form != api.FormPacked {
		return m.verdict(api.ErrList, p.End)
	}
	for i, word := range p.Labels {
		_, _, code := m.find(word.Text)
		if code == api.OK && (isMandatory(m.c, word.Text) || slices.ContainsFunc(p.Labels[:i], func(w api.Token) bool { return w.Text == word.Text })) {
			code = api.ErrList
		}
		if code != api.OK {
			return m.verdict(code, word)
		}
	}
	if p.Broken {
		return m.verdict(api.ErrList, p.End)
	}
	for i, told := range p.Codes {
		if code := m.code(p, i); code != api.OK {
			return m.verdict(code, told.At)
		}
	}
	switch {
	case p.Cut:
		return m.verdict(api.ErrCut, p.End)
	case len(m.entries) != 1:
		return m.verdict(api.ErrLeft, p.End)
	case !slices.Equal(m.entries[0], m.c.Goal):
		return m.verdict(api.ErrGoal, p.End)
	}
	return m.verdict(api.OK, api.Token{})
}

func isMandatory(c api.Context, label string) bool {
	return slices.ContainsFunc(c.Mandatory, func(h api.Hyp) bool { return h.Label == label })
}

// find tells what R7.1 says of a label: an expression, or a frame.
func (m *model) find(label string) (api.Expr, *api.Frame, api.Errno) {
	for _, h := range m.c.Hyps {
		if h.Label == label {
			return h.Expr, nil, api.OK
		}
	}
	for n := range m.b.Count() {
		if a, _ := m.b.At(n); a.Label == label {
			if n >= m.c.Before {
				return nil, nil, api.ErrLater
			}
			return nil, &a.Frame, api.OK
		}
	}
	if m.b.Taken(label) {
		return nil, nil, api.ErrHidden
	}
	return nil, nil, api.ErrUnknown
}

func (m *model) code(p api.Proof, i int) api.Errno {
	n, listed, named := p.Codes[i].N, len(m.c.Mandatory), len(m.c.Mandatory)+len(p.Labels)
	switch {
	case i == 4000:
		return api.ErrSteps
	case n < -2:
		return api.ErrLetters
	case n == -2:
		return api.ErrMissing
	case n == -1 && (i == 0 || p.Codes[i-1].N == -1):
		return api.ErrSave
	case n == -1:
		m.saved = append(m.saved, m.entries[len(m.entries)-1])
		return api.OK
	case n < listed:
		return m.lay(m.entries, m.c.Mandatory[n].Expr)
	case n < named:
		e, f, _ := m.find(p.Labels[n-listed].Text)
		if f == nil {
			return m.lay(m.entries, e)
		}
		return m.apply(*f)
	case n-named < len(m.saved):
		return m.lay(m.entries, m.saved[n-named])
	}
	return api.ErrNumber
}

func (m *model) lay(below []api.Expr, e api.Expr) api.Errno {
	if len(below) == 40 {
		return api.ErrDeep
	}
	m.entries = slices.Concat(below, []api.Expr{e})
	m.peak = max(m.peak, len(m.entries))
	return api.OK
}

func (m *model) apply(f api.Frame) api.Errno {
	at := len(m.entries) - len(f.Hyps)
	if at < 0 {
		return api.ErrUnder
	}
	made, code := conclude(f, m.entries[at:], m.c.Pairs, m.b.IsVar)
	if code == api.OK {
		code = m.lay(m.entries[:at], made)
	}
	if code == api.OK {
		m.count++
	}
	return code
}

// conclude tells what a frame makes of as many expressions as it has hypotheses.
func conclude(f api.Frame, last []api.Expr, pairs []api.Pair, vars func(int) bool) (api.Expr, api.Errno) {
	put := map[int]api.Expr{}
	for i, h := range f.Hyps {
		if h.Floating {
			if len(last[i]) == 0 || last[i][0] != h.Expr[0] {
				return nil, api.ErrKind
			}
			put[h.Var] = last[i][1:]
		}
	}
	for i, h := range f.Hyps {
		if !h.Floating && !slices.Equal(formed(h.Expr, put), last[i]) {
			return nil, api.ErrHyp
		}
	}
	for _, p := range f.Pairs {
		for _, a := range put[p.A] {
			for _, b := range put[p.B] {
				had := slices.Contains(pairs, api.Pair{A: a, B: b}) || slices.Contains(pairs, api.Pair{A: b, B: a})
				if vars(a) && vars(b) && (a == b || !had) {
					return nil, api.ErrApart
				}
			}
		}
	}
	goal := formed(f.Goal, put)
	if len(goal) > 200 {
		return nil, api.ErrTooLong
	}
	return goal, api.OK
}

func formed(e api.Expr, put map[int]api.Expr) api.Expr {
	var made api.Expr
	for _, x := range e {
		if string, bound := put[x]; bound {
			made = append(made, string...)
		} else {
			made = append(made, x)
		}
	}
	return made
}

// small is a text with an assertion of each kind, and contexts with and without hypotheses and pairs.
const small = `$c w p $. $v x y $. wx $f w x $. wy $f w y $.
none $a w $.
${ $d x y $. two $a w x y $. $}
${ hx $e p x $. hxy $a p x x $. $}
${ $d x y $. hy $e p y $. in $p w x y $= ? $. $}
${ e1 $e p y $. deep $p p y y y y $= ? $. $}
out $p w x x $= ? $.`

// smallContexts are those of the text's assertions, and some that nobody but a test makes.
func smallContexts(t *testing.T, b *base.Base) []api.Context {
	var all []api.Context
	for _, label := range []string{"two", "hxy", "in", "deep", "out"} {
		all = append(all, contextOf(t, b, label))
	}
	c := contextOf(t, b, "in")
	c.Hyps = append([]api.Hyp{{Label: "two", Expr: c.Goal}}, c.Hyps...)
	c.Before = 1
	all = append(all, c)
	c = contextOf(t, b, "out")
	c.Mandatory = []api.Hyp{{Label: "none", Expr: []int{0, 2, 2}}, {Label: "hx", Expr: []int{0}}, {Label: "none"}}
	return append(all, c, api.Context{Before: 4, Goal: []int{0}})
}

// shortLists gives every list of at most so many of the items.
func shortLists[T any](most int, items ...T) [][]T {
	all := [][]T{nil}
	for from := 0; len(all[from]) < most; from++ {
		for _, item := range items {
			all = append(all, append(slices.Clone(all[from]), item))
		}
	}
	return all
}

// agrees holds Run against the second reading, and tells the code.
func agrees(t *testing.T, b *base.Base, c api.Context, p api.Proof) api.Errno {
	t.Helper()
	got, want := Run(b, c, p), follow(b, c, p)
	if got != want {
		t.Fatalf("P12.1: %v in %v: %v, want %v", p, c, got, want)
	}
	return got.Code
}

// P12.1: all short lists of words in the brackets, whole and broken, in several contexts.
func TestAllShortBrackets(t *testing.T) {
	b := loaded(t, small)
	contexts := smallContexts(t, b)
	seen := map[api.Errno]int{}
	for _, words := range shortLists(3, "wx", "wy", "none", "two", "hx", "hxy", "in", "hy", "?", "z") {
		for _, c := range contexts {
			p := api.Proof{Form: api.FormPacked, Labels: placed(words...), Codes: coded(0), End: behind}
			seen[agrees(t, b, c, p)]++
			p.Broken = true
			seen[agrees(t, b, c, p)]++
		}
	}
	for _, code := range []api.Errno{api.OK, api.ErrList, api.ErrUnknown, api.ErrLater, api.ErrHidden, api.ErrNumber, api.ErrGoal} {
		if seen[code] == 0 {
			t.Errorf("the code %d never came", code)
		}
	}
}

// P12.1: all short lists of codes, cut and not, in several contexts.
func TestAllShortCodes(t *testing.T) {
	b := loaded(t, small)
	contexts := smallContexts(t, b)
	brackets := [][]string{nil, {"two", "none"}, {"hxy", "wy"}}
	seen := map[api.Errno]int{}
	for _, codes := range append(shortLists(5, 0, 1, 2, 3, 4, api.CodeSave), shortLists(4, 0, 2, 3, 5, api.CodeSave, api.CodeOpen, api.CodeBad)...) {
		for i, words := range brackets {
			p := api.Proof{Form: api.FormPacked, Labels: placed(words...), Codes: coded(codes...), End: behind}
			p.Cut = len(codes)%3 == 1 && i == 0
			for _, c := range contexts {
				seen[agrees(t, b, c, p)]++
			}
		}
	}
	for _, code := range []api.Errno{api.OK, api.ErrList, api.ErrLater, api.ErrNumber, api.ErrSave, api.ErrCut, api.ErrMissing, api.ErrLetters, api.ErrUnder, api.ErrKind, api.ErrHyp, api.ErrApart, api.ErrLeft, api.ErrGoal} {
		if seen[code] < 20 {
			t.Errorf("the code %d came %d times: it is hardly tried", code, seen[code])
		}
	}
}

// rule makes numbers by a fixed rule, the same in every run.
type rule uint64

func (r *rule) below(n int) int {
	*r = *r*6364136223846793005 + 1442695040888963407
	return int(uint64(*r)>>33) % n
}

// one picks an item of a list.
func one[T any](r *rule, l []T) T { return l[r.below(len(l))] }

// growing is a text in which strings double, so that long ones come soon, and stacks fill.
const growing = `$c w p a $. $v x y z $. wx $f w x $. wy $f w y $. wz $f w z $.
wa $a w a $.
dbl $a w x x $.
cat $a w x y $.
px $a p x $.
${ hx $e p x $. hy $e p y $. both $a p x y $. $}
${ $d x y $. far $a w x a y $. $}
${ $d x y $. $d y z $. t $p w a a $= ? $. $}`

// grow makes a long list of codes one by one, as a run goes: most of those that would offend are left out, so that it is long ahead of its fault.
func (r *rule) grow(b *base.Base, c api.Context, p api.Proof) []api.Code {
	m := &model{b: b, c: c}
	known := len(c.Mandatory) + len(p.Labels)
	for range 30 + r.below(500) {
		n := r.below(known)
		switch saved := len(m.saved); r.below(8) {
		case 0:
			n = api.CodeSave
		case 1, 2:
			n = known + saved - r.below(min(saved, 4)+1)
		case 3, 4:
			n = len(c.Mandatory) // the first label: it doubles what is there
		}
		p.Codes = append(p.Codes, codeAt(len(p.Codes), n))
		if m.code(p, len(p.Codes)-1) == api.OK {
			continue
		}
		if r.below(80) == 0 {
			break
		}
		p.Codes = p.Codes[:len(p.Codes)-1]
	}
	return p.Codes
}

// P12.1: long lists of codes by a rule.
func TestByRule(t *testing.T) {
	b := loaded(t, growing)
	c := contextOf(t, b, "t")
	r := rule(12)
	seen := map[api.Errno]int{}
	longest := 0
	for range 3000 {
		p := api.Proof{Form: api.FormPacked, Labels: placed("dbl", "wx", "wy", "wa", "cat", "px", "both", "far", "wz"), End: behind}
		p.Codes = r.grow(b, c, p)
		seen[agrees(t, b, c, p)]++
		longest = max(longest, len(p.Codes))
	}
	for _, code := range []api.Errno{api.ErrNumber, api.ErrSave, api.ErrUnder, api.ErrKind, api.ErrHyp, api.ErrApart, api.ErrTooLong, api.ErrDeep, api.ErrLeft} {
		if seen[code] < 10 {
			t.Errorf("the code %d came %d times: it is hardly tried", code, seen[code])
		}
	}
	if longest < 100 {
		t.Errorf("the longest has %d codes: long runs are hardly tried", longest)
	}
}
