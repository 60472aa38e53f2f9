package subst

import (
	"maps"
	"slices"
	"testing"

	"lemma/api"
)

// model is a second reading of the chapter: a map from variables to what stands for them.
type model map[int]api.Expr

// expand makes s(e), however long it becomes.
func (m model) expand(e api.Expr) api.Expr {
	var all []api.Expr
	for _, x := range e {
		if put, bound := m[x]; bound {
			all = append(all, put)
		} else {
			all = append(all, api.Expr{x})
		}
	}
	return slices.Concat(all...)
}

func (m model) apply(e api.Expr) (api.Expr, api.Errno) {
	if x := m.expand(e); len(x) <= 200 {
		return x, api.OK
	}
	return nil, api.ErrTooLong
}

func (m model) then(n model) (model, api.Errno) {
	both := model{}
	for v := range n {
		both[v] = n.expand(api.Expr{v})
	}
	for v, e := range m {
		both[v] = n.expand(e)
	}
	for _, e := range both {
		if len(e) > 200 {
			return nil, api.ErrTooLong
		}
	}
	return both, api.OK
}

func (m model) binds() []api.Bind {
	var list []api.Bind
	for _, v := range slices.Sorted(maps.Keys(m)) {
		list = append(list, api.Bind{Var: v, Expr: m[v]})
	}
	return list
}

// falling gives the binds in the order that is the other way round.
func (m model) falling() []api.Bind {
	list := m.binds()
	slices.Reverse(list)
	return list
}

// allLists gives every list of at most so many items, of 1 to kinds.
func allLists(most, kinds int) []api.Expr {
	lists := []api.Expr{nil}
	for from := 0; len(lists[from]) < most; from++ {
		for x := 1; x <= kinds; x++ {
			lists = append(lists, append(slices.Clone(lists[from]), x))
		}
	}
	return lists
}

// allModels gives every model that binds some of the variables 1 to vars to some of the lists.
func allModels(vars int, lists []api.Expr) []model {
	models := []model{{}}
	for v := 1; v <= vars; v++ {
		for _, m := range models {
			for _, e := range lists {
				wider := maps.Clone(m)
				wider[v] = e
				models = append(models, wider)
			}
		}
	}
	return models
}

// holds compares a Subst with a model, at some expressions.
func holds(t *testing.T, s Subst, m model, at []api.Expr) {
	t.Helper()
	if !same(s.Binds(), m.binds()) {
		t.Fatalf("P4.2: binds %.200v, want %.200v", s.Binds(), m.binds())
	}
	for v := -1; v < 6; v++ {
		want, wantBound := m[v]
		if e, bound := s.Of(v); bound != wantBound || !slices.Equal(e, want) {
			t.Fatalf("P4.3: %v: Of(%d) = %v, %v", m, v, e, bound)
		}
	}
	for _, e := range at {
		want, wantCode := m.apply(e)
		if x, code := s.Apply(e); code != wantCode || !slices.Equal(x, want) {
			t.Fatalf("P4.5: %.200v: Apply(%.60v) = %.60v, %d, want %.60v, %d", m, e, x, code, want, wantCode)
		}
		if n := s.Size(e); n != min(len(m.expand(e)), 201) {
			t.Fatalf("P4.4: %.200v: Size(%.60v) = %d", m, e, n)
		}
	}
}

// holdsThen compares Then with the model's, and P4.8's law with both.
func holdsThen(t *testing.T, s, u Subst, m, n model, at []api.Expr) {
	t.Helper()
	both, code := s.Then(u)
	want, wantCode := m.then(n)
	if code != wantCode || !same(both.Binds(), want.binds()) {
		t.Fatalf("P4.6: %.200v, then %.200v: %.200v, %d", m, n, both.Binds(), code)
	}
	if code != api.OK {
		return
	}
	for _, e := range at {
		first, code := s.Apply(e)
		if code != api.OK {
			continue
		}
		last, lastCode := u.Apply(first)
		if x, code := both.Apply(e); code != lastCode || !slices.Equal(x, last) {
			t.Fatalf("P4.8: %.200v, then %.200v, %.60v: %.60v, %d, want %.60v, %d", m, n, e, x, code, last, lastCode)
		}
	}
}

// P4.1 to P4.5, P4.7: all binds of two variables to short lists, and all short expressions.
func TestAllShort(t *testing.T) {
	at := allLists(4, 3)
	for _, m := range allModels(2, allLists(2, 3)) {
		s := made(t, m.falling()...)
		holds(t, s, m, at)
		for _, vars := range allLists(3, 3) {
			kept := maps.Clone(m)
			maps.DeleteFunc(kept, func(v int, _ api.Expr) bool { return !slices.Contains(vars, v) })
			if l := s.Only(vars).Binds(); !same(l, kept.binds()) {
				t.Fatalf("P4.7: %v: Only(%v) = %v", m, vars, l)
			}
		}
		for v := range m {
			if _, code := New(append(m.falling(), bind(v, 3))); code != api.ErrBind {
				t.Fatalf("P4.1: %v and %d once more: %d", m, v, code)
			}
		}
	}
}

// P4.6, P4.8: all pairs of such.
func TestThenOfAllShort(t *testing.T) {
	at := allLists(2, 3)
	models := allModels(2, allLists(2, 3))
	for _, m := range models {
		s := made(t, m.falling()...)
		for _, n := range models {
			holdsThen(t, s, made(t, n.binds()...), m, n, at)
		}
	}
}

// P4.8: of a list it is Apply of its parts one behind the other.
func TestPartsOfAllShort(t *testing.T) {
	for _, m := range allModels(2, allLists(2, 3)) {
		s := made(t, m.binds()...)
		for _, e := range allLists(3, 3) {
			whole, _ := s.Apply(e)
			for i := range len(e) + 1 {
				a, _ := s.Apply(e[:i])
				b, _ := s.Apply(e[i:])
				if !slices.Equal(whole, slices.Concat(a, b)) {
					t.Fatalf("P4.8: %v: Apply(%v), parted at %d: %v", m, e, i, whole)
				}
			}
		}
	}
}

// rule makes numbers by a fixed rule, the same in every run.
type rule uint32

func (r *rule) below(n int) int {
	*r = *r*1664525 + 1013904223
	return int(uint32(*r)>>8) % n
}

// list makes one of a length at which sums come out near MaxExpr.
func (r *rule) list() api.Expr {
	lengths := []int{0, 1, 2, 3, 49, 50, 51, 66, 67, 99, 100, 101, 199, 200, 201, 300}
	e := make(api.Expr, lengths[r.below(len(lengths))])
	kinds := 1 + r.below(6)
	for i := range e {
		e[i] = r.below(kinds)
	}
	return e
}

func (r *rule) model() model {
	m := model{}
	for range r.below(6) {
		m[r.below(6)] = r.list()
	}
	return m
}

// P4.1 to P4.8: longer lists, many of them near MaxExpr.
func TestLongByRule(t *testing.T) {
	r := rule(4)
	tooLong, fit := 0, 0
	for range 4000 {
		m, n := r.model(), r.model()
		at := []api.Expr{r.list(), r.list(), r.list(), r.list()[:0], {r.below(6), r.below(6)}, {r.below(6)}}
		s, u := made(t, m.falling()...), made(t, n.binds()...)
		holds(t, s, m, at)
		holdsThen(t, s, u, m, n, at)
		if _, code := m.then(n); code == api.OK {
			fit++
		} else {
			tooLong++
		}
	}
	if fit < 400 || tooLong < 400 {
		t.Errorf("of the cases %d fit and %d do not: one side is hardly tried", fit, tooLong)
	}
}
