package frame

import (
	"reflect"
	"slices"
	"testing"

	"lemma/api"
)

// call is one of the calls that change a stack: 'o', 'x' (open, close), 'f' (Float), 'e' (Ess), 'd' (Dist).
type call struct {
	kind  byte
	label string
	typ   int
	v     int
	list  []int
}

func (c call) ofStack(s *Stack) api.Errno {
	switch c.kind {
	case 'o':
		return s.Open()
	case 'x':
		return s.Close()
	case 'f':
		return s.Float(c.label, c.typ, c.v)
	case 'e':
		return s.Ess(c.label, c.list)
	}
	return s.Dist(c.list)
}

// deeper tells by how many scopes a call that is taken goes in.
func (c call) deeper() int {
	switch c.kind {
	case 'o':
		return 1
	case 'x':
		return -1
	}
	return 0
}

// event is a call that was taken, and how many scopes were open behind it.
type event struct {
	call
	depth int
}

// model is a second reading of the chapter: it keeps the calls that were taken, and works every answer out from them. The symbols that it looks at are 0 up to top; those from least on are variables.
type model struct {
	least, top int
	log        []event
}

func (m *model) variable(n int) bool { return n >= m.least }

func (m *model) depth() int {
	depth := 0
	for _, e := range m.log {
		depth += e.deeper()
	}
	return depth
}

// active gives the calls behind which the depth never fell below what it was there.
func (m *model) active() []event {
	var l []event
	for i, e := range m.log {
		if !slices.ContainsFunc(m.log[i:], func(f event) bool { return f.depth < e.depth }) {
			l = append(l, e)
		}
	}
	return l
}

func (m *model) typeOf(v int) (int, bool) {
	for _, e := range m.active() {
		if e.kind == 'f' && e.v == v {
			return e.typ, true
		}
	}
	return 0, false
}

// hyps gives the active hypotheses of which the floating ones are of a wanted variable.
func (m *model) hyps(wanted func(v int) bool) []api.Hyp {
	var l []api.Hyp
	for _, e := range m.active() {
		switch {
		case e.kind == 'f' && wanted(e.v):
			l = append(l, api.Hyp{Label: e.label, Floating: true, Var: e.v, Expr: api.Expr{e.typ, e.v}})
		case e.kind == 'e':
			l = append(l, api.Hyp{Label: e.label, Var: -1, Expr: slices.Clone(e.list)})
		}
	}
	return l
}

// pairs goes through all pairs of wanted symbols, in order, and asks of each whether one of the calls says it.
func (m *model) pairs(calls []event, wanted func(v int) bool) []api.Pair {
	var said [64][64]int
	for _, e := range calls {
		if e.kind == 'd' {
			for _, a := range e.list {
				for _, b := range e.list {
					said[a][b]++
				}
			}
		}
	}
	var l []api.Pair
	for a := range m.top + 1 {
		for b := a + 1; b <= m.top; b++ {
			if said[a][b] > 0 && wanted(a) && wanted(b) {
				l = append(l, api.Pair{A: a, B: b})
			}
		}
	}
	return l
}

func all(int) bool { return true }

func (m *model) judge(e api.Expr) api.Errno {
	if len(e) == 0 || m.variable(e[0]) {
		return api.ErrType
	}
	for _, n := range e {
		if _, typed := m.typeOf(n); m.variable(n) && !typed {
			return api.ErrFloat
		}
	}
	return api.OK
}

func (m *model) dist(c call) api.Errno {
	for _, v := range c.list {
		if !m.variable(v) {
			return api.ErrVar
		}
	}
	for i, v := range c.list {
		if slices.Contains(c.list[:i], v) {
			return api.ErrSame
		}
	}
	if then := append(m.active(), event{c, 0}); len(m.pairs(then, all)) > api.MaxPairs {
		return api.ErrMany
	}
	return api.OK
}

func (m *model) float(c call) api.Errno {
	if !m.variable(c.v) {
		return api.ErrVar
	}
	if m.variable(c.typ) {
		return api.ErrType
	}
	if _, typed := m.typeOf(c.v); typed {
		return api.ErrFloat
	}
	return api.OK
}

// take says what a call answers, and keeps it if that is OK.
func (m *model) take(c call) api.Errno {
	code := api.OK
	switch {
	case c.kind == 'o' && m.depth() == api.MaxDepth, c.kind == 'x' && m.depth() == 0:
		code = api.ErrScope
	case c.kind == 'f':
		code = m.float(c)
	case c.kind == 'e':
		code = m.judge(c.list)
	case c.kind == 'd':
		code = m.dist(c)
	}
	if code == api.OK {
		m.log = append(m.log, event{c, m.depth() + c.deeper()})
	}
	return code
}

func (m *model) frame(goal api.Expr) (api.Frame, api.Errno) {
	if code := m.judge(goal); code != api.OK {
		return api.Frame{}, code
	}
	mandatory := func(v int) bool {
		if slices.Contains(goal, v) {
			return true
		}
		return slices.ContainsFunc(m.active(), func(e event) bool { return e.kind == 'e' && slices.Contains(e.list, v) })
	}
	return api.Frame{Hyps: m.hyps(mandatory), Pairs: m.pairs(m.active(), mandatory), Goal: goal}, api.OK
}

// like tells whether two hypotheses are the same.
func like(g, h api.Hyp) bool {
	return g.Label == h.Label && g.Floating == h.Floating && g.Var == h.Var && slices.Equal(g.Expr, h.Expr)
}

// within tells whether all of a list stand in another, in the order in which they stand there.
func within[T any](part, whole []T, same func(a, b T) bool) bool {
	for _, x := range whole {
		if len(part) > 0 && same(part[0], x) {
			part = part[1:]
		}
	}
	return len(part) == 0
}

// lawful holds what follows (7.8) of a frame and the scope in which it was told.
func lawful(t *testing.T, f api.Frame, scope api.Scope, vars func(int) bool) {
	t.Helper()
	samePair := func(p, q api.Pair) bool { return p == q }
	if !within(f.Hyps, scope.Hyps, like) || !within(f.Pairs, scope.Pairs, samePair) {
		t.Fatalf("7.8: the frame %v is not of the scope %v", f, scope)
	}
	floats, stands := map[int]int{}, map[int]int{}
	for _, e := range append([]api.Hyp{{Expr: f.Goal}}, f.Hyps...) {
		if e.Floating {
			floats[e.Var]++
			continue
		}
		for _, n := range e.Expr {
			if vars(n) {
				stands[n] = 1
			}
		}
	}
	if !reflect.DeepEqual(floats, stands) {
		t.Fatalf("7.8: the frame %v has the floating hypotheses %v, and the variables %v", f, floats, stands)
	}
}

// sameState holds all that a stack tells against the model.
func sameState(t *testing.T, s *Stack, m *model, goals []api.Expr) {
	t.Helper()
	scope := s.Scope()
	if s.Depth() != m.depth() || !slices.EqualFunc(scope.Hyps, m.hyps(all), like) || !slices.Equal(scope.Pairs, m.pairs(m.active(), all)) {
		t.Fatalf("%v: depth %d, scope %v", m.log, s.Depth(), scope)
	}
	for v := -1; v <= m.top; v++ {
		typ, ok := s.Type(v)
		if wantTyp, want := m.typeOf(v); typ != wantTyp || ok != want {
			t.Fatalf("%v: Type(%d): %d, %v", m.log, v, typ, ok)
		}
	}
	for _, goal := range goals {
		f, code := s.Frame(goal)
		want, wantCode := m.frame(goal)
		if code != wantCode || !slices.EqualFunc(f.Hyps, want.Hyps, like) || !slices.Equal(f.Pairs, want.Pairs) || !slices.Equal(f.Goal, want.Goal) {
			t.Fatalf("%v: Frame(%v) = %v, %d, want %v, %d", m.log, goal, f, code, want, wantCode)
		}
		if code == api.OK {
			lawful(t, f, scope, m.variable)
		}
	}
}

// replay runs calls on a new stack and a new model side by side, and holds every answer of both against each other.
func replay(t *testing.T, calls []call, goals []api.Expr) {
	t.Helper()
	m := &model{least: 3, top: 5}
	s := New(m.variable)
	for i, c := range calls {
		code := c.ofStack(s)
		if want := m.take(c); code != want {
			t.Fatalf("%v: answers %d, want %d", calls[:i+1], code, want)
		}
	}
	sameState(t, s, m, goals)
}

// shortCalls are on the constants 0 to 2 and the variables 3 to 5.
func shortCalls() []call {
	return []call{
		{kind: 'o'}, {kind: 'x'},
		{kind: 'f', label: "a", typ: 1, v: 3}, {kind: 'f', label: "b", typ: 2, v: 3}, {kind: 'f', label: "a", typ: 1, v: 4}, {kind: 'f', label: "c", typ: 3, v: 4},
		{kind: 'e', label: "e", list: []int{1, 3}}, {kind: 'e', label: "g", list: []int{0, 4, 3, 4}},
		{kind: 'd', list: []int{4, 3}}, {kind: 'd', list: []int{3, 5, 4}}, {kind: 'd', list: []int{3, 3}},
	}
}

func shortGoals() []api.Expr { return []api.Expr{nil, {1}, {2, 3}, {2, 4, 4}, {0, 3, 4}, {3}, {1, 5}} }

// 7.1 to 7.8: all short runs of calls, held against the model.
func TestAllShortRuns(t *testing.T) {
	var run []call
	var grow func(most int)
	grow = func(most int) {
		replay(t, run, shortGoals())
		if len(run) == most {
			return
		}
		for _, c := range shortCalls() {
			run = append(run, c)
			grow(most)
			run = run[:len(run)-1]
		}
	}
	grow(4)
}

// 7.8: Open, anything and its Close leave Scope, Type and Frame as they were.
func TestCloseUndoesOpen(t *testing.T) {
	ahead := []call{{kind: 'f', label: "f", typ: 1, v: 4}, {kind: 'd', list: []int{3, 4}}, {kind: 'o'}, {kind: 'f', label: "g", typ: 1, v: 5}, {kind: 'e', label: "h", list: []int{2, 5}}, {kind: 'd', list: []int{4, 5}}}
	told := func(s *Stack) []any {
		l := []any{s.Depth(), s.Scope()}
		for v := range 6 {
			typ, ok := s.Type(v)
			l = append(l, typ, ok)
		}
		for _, goal := range shortGoals() {
			f, code := s.Frame(goal)
			l = append(l, f, code)
		}
		return l
	}
	var inner []call
	try := func() {
		s := New(func(n int) bool { return n >= 3 })
		for _, c := range ahead {
			c.ofStack(s)
		}
		was := told(s)
		s.Open()
		for _, c := range inner {
			c.ofStack(s)
		}
		s.Close()
		if is := told(s); !reflect.DeepEqual(is, was) {
			t.Fatalf("7.8: %v: %v, was %v", inner, is, was)
		}
	}
	var grow func(depth int)
	grow = func(depth int) {
		if depth == 0 {
			try()
		}
		if len(inner) == 4 {
			return
		}
		for _, c := range shortCalls() {
			if c.kind != 'x' || depth > 0 {
				inner = append(inner, c)
				grow(depth + c.deeper())
				inner = inner[:len(inner)-1]
			}
		}
	}
	grow(0)
}

// rule makes numbers by a fixed rule, the same in every run.
type rule uint32

func (r *rule) below(n int) int {
	*r = *r*1664525 + 1013904223
	return int(uint32(*r)>>8) % n
}

func (r *rule) numbers(most, from, below int) []int {
	var l []int
	for range r.below(most + 1) {
		l = append(l, from+r.below(below-from))
	}
	return l
}

// distinct gives some of the numbers from one on, in an order of its own, and now and then one twice or a constant.
func (r *rule) distinct(least, top int) []int {
	l := count(top-least+1, least)
	for i := range l {
		k := i + r.below(len(l)-i)
		l[i], l[k] = l[k], l[i]
	}
	l = l[:r.below(16)]
	switch r.below(12) {
	case 0:
		l = append(l, l[:r.below(len(l)+1)]...)
	case 1:
		l = append(l, r.numbers(3, 0, top+1)...)
	}
	return l
}

// call makes a call on the constants below least and the variables from there to top, mostly one that is taken.
func (r *rule) call(least, top int) call {
	labels := "abc"
	c := call{kind: "oooxxffffffffeeddd"[r.below(18)]}
	switch c.kind {
	case 'f':
		c.label, c.typ, c.v = labels[:r.below(4)], r.below(least+1), least-1+r.below(top-least+2)
	case 'e':
		c.label, c.list = labels[r.below(3):], append([]int{r.below(least)}, r.numbers(3, least, top+1)...)
	case 'd':
		c.list = r.distinct(least, top)
	}
	return c
}

// 7.1 to 7.8: long runs of calls, to all depths and up to all pairs that may be, by a fixed rule.
func TestLongRuns(t *testing.T) {
	const least, top = 4, 40
	r := rule(7)
	codes := map[api.Errno]int{}
	for range 120 {
		m := &model{least: least, top: top}
		s := New(m.variable)
		for i := range 100 {
			c := r.call(least, top)
			code := c.ofStack(s)
			if want := m.take(c); code != want {
				t.Fatalf("%v: %v answers %d, want %d", m.log, c, code, want)
			}
			codes[code]++
			if i%10 == 9 {
				sameState(t, s, m, []api.Expr{{0}, append(api.Expr{1}, r.numbers(3, least, top+1)...), {2, least + r.below(6)}})
			}
		}
	}
	for _, code := range []api.Errno{api.OK, api.ErrScope, api.ErrVar, api.ErrType, api.ErrFloat, api.ErrSame, api.ErrMany} {
		if codes[code] < 50 {
			t.Errorf("%d is answered %d times: it is hardly tried", code, codes[code])
		}
	}
}
