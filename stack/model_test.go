package stack

import (
	"slices"
	"testing"

	"lemma/api"
	"lemma/base"
)

// model is a second reading of the chapter: lists are formed, and pairs looked for one by one.
type model struct {
	c       api.Context
	vars    func(int) bool
	entries []api.Expr
	peak    int
	count   int
}

func (m *model) push(e api.Expr) api.Errno {
	if len(m.entries) == 40 {
		return api.ErrDeep
	}
	m.entries = slices.Concat(m.entries, []api.Expr{slices.Clone(e)})
	m.peak = max(m.peak, len(m.entries))
	return api.OK
}

func (m *model) apply(f api.Frame) api.Errno {
	n := len(f.Hyps)
	if len(m.entries) < n {
		return api.ErrUnder
	}
	below, last := m.entries[:len(m.entries)-n], m.entries[len(m.entries)-n:]
	made, code := conclude(f, last, m.c.Pairs, m.vars)
	if code != api.OK {
		return code
	}
	if len(below) == 40 {
		return api.ErrDeep
	}
	m.entries = slices.Concat(below, []api.Expr{made})
	m.peak = max(m.peak, len(m.entries))
	m.count++
	return api.OK
}

// conclude tells what a frame makes of as many expressions as it has hypotheses.
func conclude(f api.Frame, last []api.Expr, pairs []api.Pair, vars func(int) bool) (api.Expr, api.Errno) {
	put := map[int]api.Expr{}
	for i, h := range f.Hyps {
		if h.Floating {
			if len(last[i]) == 0 || last[i][0] != h.Expr[0] {
				return nil, api.ErrKind
			}
			put[h.Var] = last[i][1:]
		}
	}
	for i, h := range f.Hyps {
		if !h.Floating && !slices.Equal(formed(h.Expr, put), last[i]) {
			return nil, api.ErrHyp
		}
	}
	for _, p := range f.Pairs {
		for _, a := range put[p.A] {
			for _, b := range put[p.B] {
				had := slices.Contains(pairs, api.Pair{A: a, B: b}) || slices.Contains(pairs, api.Pair{A: b, B: a})
				if vars(a) && vars(b) && (a == b || !had) {
					return nil, api.ErrApart
				}
			}
		}
	}
	goal := formed(f.Goal, put)
	if len(goal) > 200 {
		return nil, api.ErrTooLong
	}
	return goal, api.OK
}

func formed(e api.Expr, put map[int]api.Expr) api.Expr {
	var made api.Expr
	for _, x := range e {
		if string, bound := put[x]; bound {
			made = append(made, string...)
		} else {
			made = append(made, x)
		}
	}
	return made
}

func (m *model) end() api.Errno {
	switch {
	case len(m.entries) != 1:
		return api.ErrLeft
	case !slices.Equal(m.entries[0], m.c.Goal):
		return api.ErrGoal
	}
	return api.OK
}

// agrees holds a machine against the model.
func agrees(t *testing.T, name string, m *Machine, x *model) {
	t.Helper()
	if m.Len() != len(x.entries) || m.Peak() != x.peak || m.Count() != x.count || m.End() != x.end() || !slices.EqualFunc(m.entries, x.entries, slices.Equal) {
		t.Fatalf("P11.3: %s: %.200v, peak %d, count %d, end %d; want %.200v, %d, %d, %d", name, m.entries, m.Peak(), m.Count(), m.End(), x.entries, x.peak, x.count, x.end())
	}
}

// allLists gives every list of at most so many of the symbols.
func allLists(most int, symbols ...int) []api.Expr {
	lists := []api.Expr{nil}
	for from := 0; len(lists[from]) < most; from++ {
		for _, x := range symbols {
			lists = append(lists, append(slices.Clone(lists[from]), x))
		}
	}
	return lists
}

// frames of at most two hypotheses, of each kind and order.
func smallFrames(t *testing.T) []api.Frame {
	x, y := list(100), list(101)
	return []api.Frame{
		declared(t, nil, nil, list(2)),
		declared(t, []api.Expr{x}, nil, list(2, 100)),
		declared(t, []api.Expr{x}, nil, list(1, 100, 100)),
		declared(t, []api.Expr{x, y}, nil, list(1, 101, 100)),
		declared(t, []api.Expr{x, y}, list(100, 101), list(1, 101, 100)),
		declared(t, []api.Expr{y, x}, list(100, 101), list(2, 100, 2, 101)),
		declared(t, []api.Expr{x, list(2, 100)}, nil, list(1)),
		declared(t, []api.Expr{x, list(1, 100)}, nil, list(1, 100)),
		declared(t, []api.Expr{x, list(1, 100, 100)}, nil, list(1, 100)),
		declared(t, []api.Expr{x, list(1, 2, 100)}, nil, list(1)),
		declared(t, []api.Expr{list(1), list(2, 2)}, nil, list(1, 2)),
		declared(t, []api.Expr{list(2), x}, nil, list(1, 100, 1)),
	}
}

// P11.3: all pairs of short entries, all small frames, some contexts.
func TestAllShort(t *testing.T) {
	entries := allLists(3, 1, 2, 100, 101)
	frames := smallFrames(t)
	seen := map[api.Errno]int{}
	for _, pairs := range [][]api.Pair{nil, {{A: 101, B: 100}}, {{A: 100, B: 100}, {A: 101, B: 101}, {A: 1, B: 2}}, {{A: 100, B: 101}, {A: 100, B: 100}}} {
		c := api.Context{Pairs: pairs, Goal: list(1, 100, 101)}
		for _, a := range entries {
			for _, b := range entries {
				for _, f := range frames {
					m, x := New(c, from100), &model{c: c, vars: from100}
					m.Push(a)
					m.Push(b)
					x.push(a)
					x.push(b)
					got, want := m.Apply(f), x.apply(f)
					if got != want {
						t.Fatalf("P11.3: %v, %v, pairs %v, %v: %d, want %d", a, b, pairs, f, got, want)
					}
					agrees(t, "two entries", m, x)
					seen[got]++
				}
			}
		}
	}
	for _, code := range []api.Errno{api.OK, api.ErrKind, api.ErrHyp, api.ErrApart} {
		if seen[code] < 1000 {
			t.Errorf("the code %d came %d times: it is hardly tried", code, seen[code])
		}
	}
}

// rule makes numbers by a fixed rule, the same in every run.
type rule uint64

func (r *rule) below(n int) int {
	*r = *r*6364136223846793005 + 1442695040888963407
	return int(uint64(*r)>>33) % n
}

// one picks an item of a list.
func one[T any](r *rule, l []T) T { return l[r.below(len(l))] }

// entry makes a list of the type 1 mostly, often near MaxExpr or half of it.
func (r *rule) entry() api.Expr {
	lengths := []int{0, 0, 1, 1, 2, 3, 66, 98, 99, 100, 101, 198, 199, 200, 300}
	e := make(api.Expr, 1+one(r, lengths))
	for i := range e {
		e[i] = 100 + r.below(3)
		if r.below(2) == 0 {
			e[i] = r.below(3)
		}
	}
	e[0] = 1
	if r.below(12) == 0 {
		e[0] = 2
	}
	return e
}

// frame makes one of some floating and essential hypotheses in any order, some pairs, and a goal.
func (r *rule) frame(t *testing.T) api.Frame {
	var hyps []api.Expr
	var typed, distinct []int
	string := func(first int) api.Expr {
		e := list(first)
		for range r.below(4) {
			if len(typed) > 0 && r.below(3) > 0 {
				e = append(e, one(r, typed))
			} else {
				e = append(e, r.below(3))
			}
		}
		return e
	}
	for v := range r.below(4) {
		if r.below(4) == 0 {
			hyps = append(hyps, string(2))
		}
		hyps = append(hyps, list(100+v))
		typed = append(typed, 100+v)
		if r.below(3) > 0 {
			distinct = append(distinct, 100+v)
		}
	}
	if r.below(3) == 0 {
		hyps = append(hyps, string(2))
	}
	if r.below(3) > 0 {
		distinct = nil
	}
	return declared(t, hyps, distinct, append(string(1), string(2)...))
}

// fitting makes entries for a frame, mostly of the right types and what the essential hypotheses ask for.
func (r *rule) fitting(f api.Frame) []api.Expr {
	put := map[int]api.Expr{}
	all := make([]api.Expr, len(f.Hyps))
	for i, h := range f.Hyps {
		if h.Floating {
			all[i] = r.entry()
			put[h.Var] = all[i][1:]
		}
	}
	for i, h := range f.Hyps {
		if !h.Floating {
			all[i] = formed(h.Expr, put)
			if at := r.below(8 * (len(all[i]) + 1)); at < len(all[i]) {
				all[i][at] = r.below(3)
			}
		}
	}
	return all
}

// P11.2 to P11.5: long runs of pushes and applies by a rule, held against the second reading step by step.
func TestByRule(t *testing.T) {
	r := rule(11)
	seen := map[api.Errno]int{}
	for range 300 {
		var pairs []api.Pair
		for range r.below(8) {
			pairs = append(pairs, api.Pair{A: 100 + r.below(3), B: 100 + r.below(3)})
		}
		c := api.Context{Pairs: pairs, Goal: r.entry()}
		m, x := New(c, from100), &model{c: c, vars: from100}
		for range 60 {
			f := r.frame(t)
			if r.below(10) > 0 {
				for _, e := range r.fitting(f) {
					if got, want := m.Push(e), x.push(e); got != want {
						t.Fatalf("P11.2: Push with %d entries: %d, want %d", m.Len(), got, want)
					}
				}
			}
			got, want := m.Apply(f), x.apply(f)
			if got != want {
				t.Fatalf("P11.3: Apply(%v) to %v: %d, want %d", f, m.entries, got, want)
			}
			agrees(t, "by rule", m, x)
			seen[got]++
		}
	}
	for _, code := range []api.Errno{api.OK, api.ErrUnder, api.ErrKind, api.ErrHyp, api.ErrApart, api.ErrTooLong, api.ErrDeep} {
		if seen[code] < 30 {
			t.Errorf("the code %d came %d times: it is hardly tried", code, seen[code])
		}
	}
}

// follow is a second reading of P11.6 and P11.7, of at most MaxProof labels.
func follow(b *base.Base, c api.Context, p api.Proof) api.Verdict {
	x := &model{c: c, vars: b.IsVar}
	verdict := func(code api.Errno, at api.Token) api.Verdict {
		return api.Verdict{Code: code, At: at, Count: x.count, Peak: x.peak}
	}
	for _, label := range p.Labels {
		if label.Text == "?" {
			return verdict(api.ErrMissing, label)
		}
		if code := x.label(b, label.Text); code != api.OK {
			return verdict(code, label)
		}
	}
	if code := x.end(); code != api.OK {
		return verdict(code, p.End)
	}
	return verdict(api.OK, api.Token{})
}

func (m *model) label(b *base.Base, label string) api.Errno {
	if i := slices.IndexFunc(m.c.Hyps, func(h api.Hyp) bool { return h.Label == label }); i >= 0 {
		return m.push(m.c.Hyps[i].Expr)
	}
	for n := range b.Count() {
		if a, _ := b.At(n); a.Label == label {
			if n < m.c.Before {
				return m.apply(a.Frame)
			}
			return api.ErrLater
		}
	}
	if b.Taken(label) {
		return api.ErrHidden
	}
	return api.ErrUnknown
}

// small is a text with an assertion of each kind, and contexts with and without hypotheses and pairs.
const small = `$c w p $. $v x y $. wx $f w x $. wy $f w y $.
none $a w $.
${ $d x y $. two $a w x y $. $}
${ hx $e p x $. hxy $a p x x $. $}
${ $d x y $. hy $e p y $. in $p w x y $= ? $. $}
out $p w x x $= ? $.`

// P11.6 to P11.8: all short lists of labels, in several contexts.
func TestAllShortProofs(t *testing.T) {
	b := loaded(t, small)
	var contexts []api.Context
	for _, label := range []string{"two", "hxy", "in", "out"} {
		c := contextOf(t, b, label)
		contexts = append(contexts, c)
		if label == "in" {
			c.Hyps = append([]api.Hyp{{Label: "two", Expr: c.Goal}}, c.Hyps...)
			c.Before = 1
			contexts = append(contexts, c)
		}
	}
	seen := map[api.Errno]int{}
	for _, words := range shortProofs("wx wy none two hx hxy in ? z", 5) {
		p := plain(words...)
		for i, c := range contexts {
			got, want := Run(b, c, p), follow(b, c, p)
			if got != want {
				t.Fatalf("P11.7: %v in the context %d: %v, want %v", words, i, got, want)
			}
			seen[got.Code]++
		}
	}
	for _, code := range []api.Errno{api.OK, api.ErrUnknown, api.ErrLater, api.ErrHidden, api.ErrUnder, api.ErrKind, api.ErrHyp, api.ErrApart, api.ErrLeft, api.ErrGoal, api.ErrMissing} {
		if seen[code] == 0 {
			t.Errorf("the code %d never came", code)
		}
	}
}
