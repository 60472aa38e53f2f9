package dist

import (
	"slices"
	"testing"

	"lemma/api"
	"lemma/subst"
)

// top is the greatest number that the models look at.
const top = 6

// those is a second reading of 'in order': every pair of numbers up to top that is wanted, gone through in order.
func those(wanted func(a, b int) bool) []api.Pair {
	var l []api.Pair
	for a := 0; a <= top; a++ {
		for b := a + 1; b <= top; b++ {
			if wanted(a, b) || wanted(b, a) {
				l = append(l, api.Pair{A: a, B: b})
			}
		}
	}
	return l
}

// stands tells whether a pair stands in a list just so.
func stands(l []api.Pair, a, b int) bool { return slices.Contains(l, api.Pair{A: a, B: b}) }

// binds is a model of a substitution: what stands for a number, or nil where nothing does.
type binds [top + 1]*api.Expr

func (m binds) subst(t *testing.T) subst.Subst {
	t.Helper()
	var l []api.Bind
	for v, e := range m {
		if e != nil {
			l = append(l, api.Bind{Var: v, Expr: *e})
		}
	}
	return binding(t, l...)
}

// reaches tells whether a variable x stands in the string of v.
func (m binds) reaches(v, x int, vars func(int) bool) bool {
	if !vars(x) {
		return false
	}
	if m[v] == nil {
		return x == v
	}
	return slices.Contains(*m[v], x)
}

// asks tells whether the string of p.A has a and that of p.B has b.
func (m binds) asks(p api.Pair, a, b int, vars func(int) bool) bool {
	return m.reaches(p.A, a, vars) && m.reaches(p.B, b, vars)
}

func (m binds) breach(l []api.Pair, vars func(int) bool, had func(a, b int) bool) (api.Pair, bool) {
	for _, p := range l {
		for a := 0; a <= top; a++ {
			for b := 0; b <= top; b++ {
				if m.asks(p, a, b, vars) && (a == b || !had(a, b) && !had(b, a)) {
					return p, true
				}
			}
		}
	}
	return api.Pair{}, false
}

func (m binds) carry(l []api.Pair, vars func(int) bool) ([]api.Pair, api.Pair, bool) {
	if p, broken := m.breach(l, vars, func(a, b int) bool { return true }); broken {
		return nil, p, false
	}
	asked := those(func(a, b int) bool {
		return slices.ContainsFunc(l, func(p api.Pair) bool { return m.asks(p, a, b, vars) })
	})
	return asked, api.Pair{}, true
}

// lists gives every list of at most so many of some items.
func lists[T any](most int, items ...T) [][]T {
	all := [][]T{nil}
	for from := 0; len(all[from]) < most; from++ {
		for _, x := range items {
			all = append(all, append(slices.Clone(all[from]), x))
		}
	}
	return all
}

// square gives every pair of the numbers 1 to 3, either way round, and with themselves.
func square() []api.Pair { return ps(1, 1, 1, 2, 1, 3, 2, 1, 2, 2, 2, 3, 3, 1, 3, 2, 3, 3) }

// models gives every substitution that binds some of 1 and 2 to lists of at most two of 1 to 3.
func models() []binds {
	all := []binds{{}}
	for v := 1; v <= 2; v++ {
		for _, m := range slices.Clone(all) {
			for _, e := range lists(2, 1, 2, 3) {
				m[v] = &e
				all = append(all, m)
			}
		}
	}
	return all
}

// P5.1 to P5.3: Norm, Has and Only of all short lists.
func TestListsOfAllShort(t *testing.T) {
	for _, l := range lists(3, square()...) {
		norm := Norm(l)
		want := those(func(a, b int) bool { return stands(l, a, b) })
		if !slices.Equal(norm, want) || !inOrder(norm) || !slices.Equal(Norm(norm), norm) {
			t.Fatalf("P5.1, P5.2: Norm(%v) = %v", l, norm)
		}
		for a := range 5 {
			for b := range 5 {
				p := api.Pair{A: a, B: b}
				if Has(l, p) != (stands(l, a, b) || stands(l, b, a)) {
					t.Fatalf("P5.1: Has(%v, %v) is %v", l, p, Has(l, p))
				}
				if a != b && Has(norm, p) != Has(l, p) {
					t.Fatalf("P5.3: Has(Norm(%v), %v) is %v", l, p, Has(norm, p))
				}
			}
		}
		for _, vars := range lists(3, 1, 2, 3, 4) {
			both := func(a, b int) bool {
				return stands(l, a, b) && slices.Contains(vars, a) && slices.Contains(vars, b)
			}
			if only := Only(l, vars); !slices.Equal(only, those(both)) {
				t.Fatalf("P5.1: Only(%v, %v) = %v", l, vars, only)
			}
		}
	}
}

// P5.1, P5.2: Union of all pairs of short lists.
func TestUnionOfAllShort(t *testing.T) {
	short := lists(2, square()...)
	for _, l := range short {
		if !slices.Equal(Union(l, l), Norm(l)) {
			t.Fatalf("P5.2: Union(%v, %v) = %v", l, l, Union(l, l))
		}
		for _, m := range short {
			both := Union(l, m)
			if !slices.Equal(both, those(func(a, b int) bool { return stands(l, a, b) || stands(m, a, b) })) {
				t.Fatalf("P5.1: Union(%v, %v) = %v", l, m, both)
			}
			if !slices.Equal(both, Union(m, l)) {
				t.Fatalf("P5.2: Union(%v, %v) is %v, the other way round %v", l, m, both, Union(m, l))
			}
		}
	}
}

// P5.1, P5.3: All of all short lists.
func TestAllOfAllShort(t *testing.T) {
	for _, vars := range lists(5, 0, 1, 2, 3, 4) {
		l, code := All(vars)
		distinct := len(slices.Compact(slices.Sorted(slices.Values(vars)))) == len(vars)
		if !distinct && (code != api.ErrSame || len(l) != 0) {
			t.Fatalf("P5.1: All(%v) = %v, %d", vars, l, code)
		}
		both := func(a, b int) bool { return slices.Contains(vars, a) && slices.Contains(vars, b) }
		if distinct && (code != api.OK || !slices.Equal(l, those(both)) || len(l) != len(vars)*(len(vars)-1)/2) {
			t.Fatalf("P5.1, P5.3: All(%v) = %v, %d", vars, l, code)
		}
	}
}

// holds compares Carry and Breach with the model's, and P5.4's law with both.
func holds(t *testing.T, l []api.Pair, s subst.Subst, m binds, vars func(int) bool, haves [][]api.Pair) bool {
	t.Helper()
	asked, p, fine := Carry(l, s, vars)
	wantAsked, wantPair, wantFine := m.carry(l, vars)
	if !slices.Equal(asked, wantAsked) || p != wantPair || fine != wantFine || !inOrder(asked) {
		t.Fatalf("P5.1, P5.2: %v: Carry(%v) = %v, %v, %v, want %v, %v, %v", s.Binds(), l, asked, p, fine, wantAsked, wantPair, wantFine)
	}
	for _, have := range append(haves, asked) {
		p, broken := Breach(l, s, vars, have)
		wantPair, wantBroken := m.breach(l, vars, func(a, b int) bool { return stands(have, a, b) })
		if p != wantPair || broken != wantBroken {
			t.Fatalf("P5.1: %v: Breach(%v; have %v) = %v, %v, want %v, %v", s.Binds(), l, have, p, broken, wantPair, wantBroken)
		}
		missing := slices.ContainsFunc(asked, func(q api.Pair) bool { return !Has(have, q) })
		if broken != (!fine || missing) {
			t.Fatalf("P5.4: %v: Breach(%v; have %v) is %v, Carry tells %v, %v", s.Binds(), l, have, broken, asked, fine)
		}
	}
	return fine
}

// P5.1, P5.2, P5.4: all short lists under all short substitutions, whichever symbols are variables.
func TestCarryOfAllShort(t *testing.T) {
	haves := [][]api.Pair{nil, ps(2, 1, 1, 1), ps(2, 3, 2, 2, 3, 3, 1, 3), ps(3, 1, 1, 2, 1, 2)}
	for _, m := range models() {
		s := m.subst(t)
		for _, l := range lists(2, square()...) {
			for _, mask := range []int{15, 7, 11, 13, 14, 2, 4, 0} {
				holds(t, l, s, m, func(n int) bool { return mask>>(n%4)&1 == 1 }, haves)
			}
		}
	}
}

// P5.4: with the empty substitution Carry of a list without a pair of a variable with itself is its Norm.
func TestNothingPutInAllShort(t *testing.T) {
	for _, l := range lists(3, ps(1, 2, 1, 3, 2, 1, 2, 3, 3, 1, 3, 2)...) {
		m, p, fine := Carry(l, subst.Subst{}, all)
		if !fine || p != (api.Pair{}) || !slices.Equal(m, Norm(l)) {
			t.Fatalf("P5.4: Carry(%v) by nothing = %v, %v, %v", l, m, p, fine)
		}
	}
}

// behind holds P5.5 of a list and two substitutions; it tells whether its conditions were met.
func behind(t *testing.T, l []api.Pair, s, u subst.Subst, vars func(int) bool) bool {
	t.Helper()
	first, _, fine := Carry(l, s, vars)
	if !fine {
		return false
	}
	second, _, fine := Carry(first, u, vars)
	both, code := s.Then(u)
	if !fine || code != api.OK {
		return false
	}
	if got, p, fine := Carry(l, both, vars); !fine || p != (api.Pair{}) || !slices.Equal(got, second) {
		t.Fatalf("P5.5: %v, %v, then %v: %v, %v, %v, want %v", l, s.Binds(), u.Binds(), got, p, fine, second)
	}
	return true
}

// P5.5: all pairs of short substitutions.
func TestBehindOfAllShort(t *testing.T) {
	var all []subst.Subst
	for _, m := range models() {
		all = append(all, m.subst(t))
	}
	met := 0
	for _, s := range all {
		for _, u := range all {
			for _, l := range [][]api.Pair{ps(1, 2), ps(2, 1, 1, 3), ps(3, 2)} {
				if behind(t, l, s, u, func(n int) bool { return n < 4 }) {
					met++
				}
			}
		}
	}
	if met < 2000 {
		t.Errorf("P5.5: its conditions are met %d times: it is hardly tried", met)
	}
}

// rule makes numbers by a fixed rule, the same in every run.
type rule uint32

func (r *rule) below(n int) int {
	*r = *r*1664525 + 1013904223
	return int(uint32(*r)>>8) % n
}

func (r *rule) pairs(most int) []api.Pair {
	var l []api.Pair
	for range r.below(most + 1) {
		l = append(l, api.Pair{A: r.below(top + 1), B: r.below(top + 1)})
	}
	return l
}

// model binds few variables to strings of few, so that pairs come out kept as well as broken; 0 is never bound.
func (r *rule) model() binds {
	var m binds
	for range r.below(6) {
		var e api.Expr
		for range r.below(4) {
			e = append(e, r.below(top+1))
		}
		m[1+r.below(top)] = &e
	}
	return m
}

// P5.1 to P5.5: longer lists and more variables; the symbol 0 stands for one that is no variable.
func TestLongByRule(t *testing.T) {
	r := rule(5)
	fine, broken, met := 0, 0, 0
	vars := func(n int) bool { return n != 0 }
	for range 20000 {
		l, m := r.pairs(4), r.model()
		s := m.subst(t)
		if holds(t, l, s, m, vars, [][]api.Pair{r.pairs(20), r.pairs(60)}) {
			fine++
		} else {
			broken++
		}
		bare := slices.DeleteFunc(l, func(p api.Pair) bool { return p.A == 0 || p.B == 0 || p.A == p.B })
		if len(bare) > 0 && behind(t, bare, s, r.model().subst(t), vars) {
			met++
		}
	}
	if fine < 2000 || broken < 2000 || met < 1000 {
		t.Errorf("of the cases %d are fine, %d broken, %d meet P5.5's conditions: one is hardly tried", fine, broken, met)
	}
}
