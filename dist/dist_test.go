package dist

import (
	"math"
	"slices"
	"testing"

	"lemma/api"
	"lemma/subst"
)

// ps makes a list of pairs of numbers, two by two.
func ps(n ...int) []api.Pair {
	var l []api.Pair
	for i := 0; i < len(n); i += 2 {
		l = append(l, api.Pair{A: n[i], B: n[i+1]})
	}
	return l
}

func bind(v int, e ...int) api.Bind { return api.Bind{Var: v, Expr: e} }

func binding(t *testing.T, binds ...api.Bind) subst.Subst {
	t.Helper()
	s, code := subst.New(binds)
	if code != api.OK {
		t.Fatalf("subst.New(%v): %d", binds, code)
	}
	return s
}

// chapter gives the substitution of the chapter's examples.
func chapter(t *testing.T) subst.Subst {
	t.Helper()
	return binding(t, bind(1, 2, 3), bind(4))
}

func notNine(n int) bool { return n != 9 }

func all(int) bool { return true }

func none(int) bool { return false }

// count gives so many numbers, falling by step to 0.
func count(n, step int) []int {
	var list []int
	for i := range n {
		list = append(list, (n-1-i)*step)
	}
	return list
}

func check(t *testing.T, what string, got []api.Pair, want ...int) {
	t.Helper()
	if !slices.Equal(got, ps(want...)) {
		t.Errorf("%s: %v, want %v", what, got, ps(want...))
	}
}

func checkAll(t *testing.T, vars []int, want ...int) {
	t.Helper()
	l, code := All(vars)
	if code != api.OK || !slices.Equal(l, ps(want...)) {
		t.Errorf("P5.1: All(%v) = %v, %d, want %v", vars, l, code, ps(want...))
	}
}

func checkRefused(t *testing.T, vars []int, want api.Errno) {
	t.Helper()
	if l, code := All(vars); code != want || len(l) != 0 {
		t.Errorf("P5.1: All(%.60v), %d numbers: %d pairs, %d, want %d", vars, len(vars), len(l), code, want)
	}
}

// P5.1: the chapter's examples of All, no variable, one, in any order, any numbers.
func TestAll(t *testing.T) {
	checkAll(t, []int{3, 1, 2}, 1, 2, 1, 3, 2, 3)
	checkAll(t, nil)
	checkAll(t, []int{})
	checkAll(t, []int{7})
	checkAll(t, []int{5, 2}, 2, 5)
	checkAll(t, []int{2, 5}, 2, 5)
	checkAll(t, []int{0, math.MaxInt, -3, math.MinInt},
		math.MinInt, -3, math.MinInt, 0, math.MinInt, math.MaxInt, -3, 0, -3, math.MaxInt, 0, math.MaxInt)
}

// P5.1: a variable that stands twice, side by side or apart, is ErrSame; ErrMany comes ahead of it.
func TestAllRefuses(t *testing.T) {
	for _, vars := range [][]int{{1, 2, 1}, {1, 1}, {0, 0}, {1, 1, 1}, {3, 2, 1, 2}, {2, 2, 1}, {1, 2, 2}, {-1, 4, -1}, {math.MinInt, 0, math.MinInt}, {math.MaxInt, math.MaxInt}} {
		checkRefused(t, vars, api.ErrSame)
	}
	checkRefused(t, slices.Repeat([]int{1}, 512), api.ErrSame)
	checkRefused(t, slices.Repeat([]int{1}, 513), api.ErrMany)
	checkRefused(t, count(513, 1), api.ErrMany)
	checkRefused(t, append(count(512, 1), 511), api.ErrMany)
	checkRefused(t, append(count(511, 1), 510), api.ErrSame)
	checkRefused(t, append(count(511, 1), 0), api.ErrSame)
	checkRefused(t, make([]int, 100000), api.ErrMany)
}

// P5.1, P5.3: of 512 variables every pair, in order, n(n-1)/2 of them.
func TestAllOfMany(t *testing.T) {
	for _, n := range []int{2, 3, 10, 511, 512} {
		l, code := All(count(n, 3))
		if code != api.OK || len(l) != n*(n-1)/2 || !inOrder(l) {
			t.Errorf("P5.3: All of %d: %d pairs, %d", n, len(l), code)
		}
		for _, p := range l {
			if p.A%3 != 0 || p.B%3 != 0 || p.A < 0 || p.B > 3*(n-1) {
				t.Fatalf("P5.1: All of %d has %v", n, p)
			}
		}
	}
	if l, _ := All(count(512, 1)); len(l) != 130816 {
		t.Errorf("P5.1: All of 512: %d pairs", len(l))
	}
}

// inOrder tells whether a list is as the chapter's section 'Words' says.
func inOrder(l []api.Pair) bool {
	for i, p := range l {
		if p.A >= p.B {
			return false
		}
		if i > 0 && (l[i-1].A > p.A || l[i-1].A == p.A && l[i-1].B >= p.B) {
			return false
		}
	}
	return true
}

// P5.1, P5.2: the chapter's example of Norm, pairs either way round, more than once, with themselves, of any numbers.
func TestNorm(t *testing.T) {
	check(t, "P5.1: Norm", Norm(ps(3, 1, 2, 2, 1, 3, 1, 2)), 1, 2, 1, 3)
	check(t, "P5.1: Norm of nil", Norm(nil))
	check(t, "P5.1: Norm of none", Norm([]api.Pair{}))
	check(t, "P5.1: Norm of pairs with themselves", Norm(ps(2, 2, 0, 0, 2, 2, -1, -1)))
	check(t, "P5.1: Norm of one pair, many times", Norm(ps(2, 1, 1, 2, 2, 1, 2, 1)), 1, 2)
	check(t, "P5.2: Norm by A, then B", Norm(ps(10, 2, 9, 10, 1, 100, 2, 9, 1, 3)), 1, 3, 1, 100, 2, 9, 2, 10, 9, 10)
	check(t, "P5.2: Norm of ends", Norm(ps(math.MaxInt, math.MinInt, 0, math.MinInt, math.MaxInt, 0, -1, 0)),
		math.MinInt, 0, math.MinInt, math.MaxInt, -1, 0, 0, math.MaxInt)
	l, _ := All(count(200, 1))
	if !slices.Equal(Norm(l), l) {
		t.Error("P5.2: Norm of a list in order is another")
	}
	back := slices.Clone(l)
	slices.Reverse(back)
	for i := range back {
		back[i] = api.Pair{A: back[i].B, B: back[i].A}
	}
	if !slices.Equal(Norm(back), l) || !slices.Equal(Norm(slices.Concat(l, back, l)), l) {
		t.Error("P5.1: Norm of a list the other way round, or three times, is another")
	}
}

// P5.1, P5.2: the chapter's example of Union; none on one side, on both; what stands in both.
func TestUnion(t *testing.T) {
	check(t, "P5.1: Union", Union(ps(1, 2), ps(2, 1, 0, 5)), 0, 5, 1, 2)
	check(t, "P5.2: Union, the other way round", Union(ps(2, 1, 0, 5), ps(1, 2)), 0, 5, 1, 2)
	check(t, "P5.1: Union of none", Union(nil, []api.Pair{}))
	check(t, "P5.1: Union with none", Union(ps(5, 4, 4, 5, 6, 6), nil), 4, 5)
	check(t, "P5.1: Union of none with some", Union(nil, ps(5, 4, 4, 5, 6, 6)), 4, 5)
	check(t, "P5.1: Union of pairs with themselves", Union(ps(1, 1), ps(1, 1, 2, 2)))
	check(t, "P5.2: Union of a list with itself", Union(ps(7, 3, 3, 5, 5, 5), ps(7, 3, 3, 5, 5, 5)), 3, 5, 3, 7)
}

// P5.1: either way round; a pair of a variable with itself is had just if it stands there.
func TestHas(t *testing.T) {
	for _, x := range []struct {
		l    []api.Pair
		a, b int
		want bool
	}{
		{ps(3, 1), 1, 3, true}, {ps(3, 1), 3, 1, true}, {ps(1, 3), 1, 3, true}, {ps(1, 3), 3, 1, true},
		{ps(1, 2), 2, 2, false}, {ps(1, 2), 1, 1, false}, {ps(2, 2), 2, 2, true}, {ps(2, 2), 1, 2, false}, {ps(2, 2), 2, 1, false},
		{ps(2, 1, 1, 3), 2, 2, false}, {ps(1, 2, 3, 4), 1, 3, false}, {ps(1, 2, 3, 4), 1, 4, false}, {ps(1, 2, 3, 4), 2, 3, false},
		{ps(1, 2, 3, 4, 6, 5), 5, 6, true}, {ps(1, 2, 1, 2), 2, 1, true}, {ps(1, 1, 2, 2), 1, 2, false}, {ps(1, 1, 2, 2, 1, 2), 2, 2, true},
		{nil, 0, 0, false}, {nil, 1, 2, false}, {[]api.Pair{}, 0, 0, false}, {ps(0, 0), 0, 0, true},
		{ps(math.MaxInt, math.MinInt), math.MinInt, math.MaxInt, true}, {ps(-1, 0), 0, -1, true}, {ps(-1, 0), 0, 1, false},
	} {
		if Has(x.l, api.Pair{A: x.a, B: x.b}) != x.want {
			t.Errorf("P5.1: Has(%v, %d-%d) is %v", x.l, x.a, x.b, !x.want)
		}
	}
}

// P5.1: both variables must be among the wanted ones, which may stand twice, or in no pair.
func TestOnly(t *testing.T) {
	l := ps(1, 2, 3, 1, 2, 3)
	check(t, "P5.1: Only", Only(l, []int{3, 1}), 1, 3)
	check(t, "P5.1: Only to nothing", Only(l, nil))
	check(t, "P5.1: Only to no variable", Only(l, []int{}))
	check(t, "P5.1: Only to one", Only(l, []int{1}))
	check(t, "P5.1: Only to one, twice", Only(l, []int{1, 1}))
	check(t, "P5.1: Only to variables that stand twice", Only(l, []int{3, 2, 3, 2, 2}), 2, 3)
	check(t, "P5.1: Only to variables of no pair", Only(l, []int{0, 4, -1, 7}))
	check(t, "P5.1: Only to one of no pair", Only(l, []int{9, 2, -4, 1}), 1, 2)
	check(t, "P5.1: Only to all", Only(l, []int{2, 3, 1}), 1, 2, 1, 3, 2, 3)
	check(t, "P5.1: Only of none", Only(nil, []int{1, 2}))
	check(t, "P5.1: Only, put in order", Only(ps(9, 8, 7, 7, 8, 9, 7, 9, 5, 7), []int{7, 8, 9}), 7, 9, 8, 9)
	check(t, "P5.1: Only of ends", Only(ps(0, math.MinInt, math.MaxInt, 0, math.MaxInt, math.MinInt), []int{math.MaxInt, math.MinInt}), math.MinInt, math.MaxInt)
}

// P5.3: Only of All to some of the variables is All of these.
func TestOnlyOfAll(t *testing.T) {
	vars := []int{5, -2, 11, 0, 7}
	whole, _ := All(vars)
	for some := range 1 << len(vars) {
		var kept []int
		for i, v := range vars {
			if some>>i&1 == 1 {
				kept = append(kept, v)
			}
		}
		want, code := All(kept)
		if code != api.OK || !slices.Equal(Only(whole, kept), want) {
			t.Errorf("P5.3: Only(All(%v), %v) = %v", vars, kept, Only(whole, kept))
		}
	}
}

func checkCarry(t *testing.T, l []api.Pair, s subst.Subst, vars func(int) bool, want ...int) {
	t.Helper()
	m, p, fine := Carry(l, s, vars)
	if !fine || p != (api.Pair{}) || !slices.Equal(m, ps(want...)) {
		t.Errorf("P5.1: Carry(%v) = %v, %v, %v, want %v", l, m, p, fine, ps(want...))
	}
}

func checkBroken(t *testing.T, l []api.Pair, s subst.Subst, vars func(int) bool, a, b int) {
	t.Helper()
	m, p, fine := Carry(l, s, vars)
	if fine || p != (api.Pair{A: a, B: b}) || len(m) != 0 {
		t.Errorf("P5.1: Carry(%v) = %v, %v, %v, want %d-%d", l, m, p, fine, a, b)
	}
}

// P5.1: the chapter's examples of Carry.
func TestCarry(t *testing.T) {
	s := chapter(t)
	checkCarry(t, ps(1, 5), s, notNine, 2, 5, 3, 5)
	checkCarry(t, ps(1, 4), s, notNine)
	checkBroken(t, ps(1, 5, 5, 3, 1, 2), s, notNine, 1, 2)
	checkBroken(t, ps(3, 1, 1, 2), s, notNine, 3, 1)
	checkCarry(t, ps(1, 9), s, notNine)
	checkBroken(t, ps(5, 5), s, notNine, 5, 5)
	checkCarry(t, ps(4, 4), s, notNine)
	checkCarry(t, ps(9, 9), s, notNine)
	checkCarry(t, nil, s, notNine)
}

// P5.1: of Carry: what is not bound, bound to nothing, bound to itself, bound to symbols that are no variables; all at once.
func TestCarryStrings(t *testing.T) {
	s := binding(t, bind(1, 9, 2, 9, 9, 2, 8), bind(2, 1), bind(3, 3), bind(4), bind(5, 9, 9), bind(9, 6))
	checkCarry(t, ps(1, 2), s, notNine, 1, 2, 1, 8)
	checkCarry(t, ps(2, 1), s, notNine, 1, 2, 1, 8)
	checkCarry(t, ps(3, 7, 7, 2), s, notNine, 1, 7, 3, 7)
	checkCarry(t, ps(5, 1, 1, 5, 5, 5, 5, 4), s, notNine)
	checkBroken(t, ps(5, 1), s, all, 5, 1)
	// 9 is no variable, but it is bound: what stands for it counts.
	checkCarry(t, ps(9, 7), s, notNine, 6, 7)
	checkBroken(t, ps(9, 6), s, notNine, 9, 6)
	checkBroken(t, ps(9, 9), s, notNine, 9, 9)
	checkBroken(t, ps(8, 7, 1, 8), s, notNine, 1, 8)
	checkCarry(t, ps(1, 1, 1, 2, 7, 7, 9, 6), s, none)
	checkCarry(t, ps(1, 3), s, func(n int) bool { return n == 3 })
	checkCarry(t, ps(1, 3), s, func(n int) bool { return n == 3 || n == 8 }, 3, 8)
	turnedRound := binding(t, bind(1, 2), bind(2, 1))
	checkCarry(t, ps(1, 2, 3, 1, 2, 4), turnedRound, all, 1, 2, 1, 4, 2, 3)
	far := binding(t, bind(math.MinInt, math.MaxInt, -1), bind(math.MaxInt, math.MinInt))
	checkCarry(t, ps(math.MaxInt, math.MinInt), far, all, math.MinInt, -1, math.MinInt, math.MaxInt)
}

// P5.1, P5.2: many strings that ask for the same, more than once, either way round, in one list: told once, in order.
func TestCarryOnce(t *testing.T) {
	s := binding(t, bind(1, 7, 6), bind(2, 6, 7, 6), bind(3, 4, 5))
	checkCarry(t, ps(3, 1, 2, 3, 1, 3, 3, 1), s, all, 4, 6, 4, 7, 5, 6, 5, 7)
	checkBroken(t, ps(3, 1, 2, 3, 2, 1, 1, 2), s, all, 2, 1)
	checkBroken(t, ps(3, 1, 2, 3, 1, 2, 2, 1), s, all, 1, 2)
	checkBroken(t, ps(1, 3, 1, 1, 2, 2), s, all, 1, 1)
	checkBroken(t, ps(0, 0, 1, 1), s, all, 0, 0)
}

func checkBreach(t *testing.T, l []api.Pair, s subst.Subst, vars func(int) bool, have []api.Pair, a, b int) {
	t.Helper()
	if p, broken := Breach(l, s, vars, have); !broken || p != (api.Pair{A: a, B: b}) {
		t.Errorf("P5.1: Breach(%v; have %v) = %v, %v, want %d-%d", l, have, p, broken, a, b)
	}
}

func checkKept(t *testing.T, l []api.Pair, s subst.Subst, vars func(int) bool, have []api.Pair) {
	t.Helper()
	if p, broken := Breach(l, s, vars, have); broken || p != (api.Pair{}) {
		t.Errorf("P5.1: Breach(%v; have %v) = %v, %v, though none is broken", l, have, p, broken)
	}
}

// P5.1: the chapter's examples of Breach.
func TestBreach(t *testing.T) {
	s := chapter(t)
	checkBreach(t, ps(1, 5), s, notNine, ps(2, 5), 1, 5)
	checkKept(t, ps(1, 5), s, notNine, ps(5, 3, 2, 5))
	checkKept(t, ps(4, 5), s, notNine, nil)
	checkBreach(t, ps(5, 6), s, notNine, nil, 5, 6)
	checkBreach(t, ps(5, 6, 1, 2), s, notNine, ps(6, 5), 1, 2)
}

// P5.1: of Breach: pairs as they stand, of a variable with itself on either side, strings that ask for nothing.
func TestBreachEdges(t *testing.T) {
	s := chapter(t)
	checkKept(t, nil, s, all, nil)
	checkKept(t, nil, s, all, ps(1, 2, 3, 3))
	checkKept(t, ps(4, 4, 9, 9, 9, 5, 1, 9, 4, 1), s, notNine, nil)
	checkBreach(t, ps(9, 9), s, all, ps(9, 9), 9, 9)
	checkBreach(t, ps(5, 5), s, all, ps(5, 5), 5, 5)
	checkBreach(t, ps(1, 1), s, all, ps(2, 3, 2, 2, 3, 3), 1, 1)
	checkBreach(t, ps(1, 3), s, all, ps(2, 3, 3, 3, 1, 3), 1, 3)
	checkBreach(t, ps(2, 1), s, all, ps(2, 3, 2, 2, 1, 2), 2, 1)
	checkBreach(t, ps(6, 5), s, all, ps(5, 7, 6, 7, 5, 5, 6, 6), 6, 5)
	checkBreach(t, ps(5, 1), s, all, ps(1, 5, 5, 2), 5, 1)
	checkBreach(t, ps(1, 5), s, all, ps(1, 5), 1, 5)
	checkBreach(t, ps(5, 6, 6, 5, 8, 7, 7, 8), s, all, ps(6, 5), 8, 7)
	checkBreach(t, ps(6, 5, 5, 6, 7, 8, 8, 7), s, all, ps(5, 6), 7, 8)
	checkKept(t, ps(6, 5, 5, 6, 1, 7), s, all, ps(7, 3, 5, 6, 2, 2, 7, 2, 2, 7))
	// What is missing comes ahead of what is broken outright, if it stands ahead, and the other way round.
	checkBreach(t, ps(5, 6, 1, 2), s, all, nil, 5, 6)
	checkBreach(t, ps(1, 2, 5, 6), s, all, nil, 1, 2)
	// Each with each: one that is missing is enough, wherever it stands.
	wide := binding(t, bind(1, 11, 12, 13), bind(2, 21, 22))
	each := Norm(ps(11, 21, 11, 22, 12, 21, 12, 22, 13, 21, 13, 22))
	checkKept(t, ps(1, 2, 2, 1), wide, all, each)
	for i := range each {
		less := slices.Delete(slices.Clone(each), i, i+1)
		checkBreach(t, ps(1, 2), wide, all, less, 1, 2)
		checkBreach(t, ps(2, 1), wide, all, less, 2, 1)
		gone := each[i]
		checkKept(t, ps(1, 2), wide, func(n int) bool { return n != gone.A }, less)
	}
}

// P5.4: with the empty substitution Carry is Norm, and Breach finds what is not had.
func TestEmptySubstitution(t *testing.T) {
	l := ps(3, 1, 1, 2, 2, 1, 9, 4, math.MaxInt, math.MinInt)
	m, _, fine := Carry(l, subst.Subst{}, all)
	if !fine || !slices.Equal(m, Norm(l)) {
		t.Errorf("P5.4: Carry(%v) by nothing = %v, %v", l, m, fine)
	}
	checkKept(t, l, subst.Subst{}, all, m)
	checkBreach(t, l, subst.Subst{}, all, m[1:], math.MaxInt, math.MinInt)
	whole, _ := All(count(512, 1))
	if m, _, fine := Carry(whole, subst.Subst{}, all); !fine || !slices.Equal(m, whole) {
		t.Errorf("P5.4: Carry of all pairs of 512 by nothing: %d pairs, %v", len(m), fine)
	}
}

// P5.5: one substitution behind the other, where strings grow, vanish and change places.
func TestOneBehindTheOther(t *testing.T) {
	s := binding(t, bind(1, 2, 9, 3), bind(4), bind(5, 6, 6))
	u := binding(t, bind(2, 1, 1), bind(3), bind(6, 5, 7))
	both, code := s.Then(u)
	if code != api.OK {
		t.Fatalf("Then: %d", code)
	}
	l := ps(5, 1, 4, 5, 8, 1)
	checkCarry(t, l, s, notNine, 2, 6, 2, 8, 3, 6, 3, 8)
	checkCarry(t, ps(2, 6, 2, 8, 3, 6, 3, 8), u, notNine, 1, 5, 1, 7, 1, 8)
	checkCarry(t, l, both, notNine, 1, 5, 1, 7, 1, 8)
}

// P5.1: lists and strings of many: a pair that comes again, and a string that stands in many pairs, cost little.
func TestMany(t *testing.T) {
	left, right := count(200, 2), count(200, 2)
	for i := range right {
		right[i]++
	}
	s := binding(t, bind(-1, slices.Repeat(left, 50)...), bind(-2, slices.Repeat(right, 50)...), bind(-3, left...))
	l := slices.Repeat(ps(-1, -2, -2, -1, -2, -3), 20000)
	m, _, fine := Carry(l, s, all)
	if !fine || len(m) != 40000 || !inOrder(m) {
		t.Fatalf("P5.1: Carry of long strings: %d pairs, %v", len(m), fine)
	}
	checkKept(t, l, s, all, m)
	checkBreach(t, append(l, ps(-3, -1)...), s, all, m, -3, -1)
	checkBreach(t, l, s, all, m[:39999], -1, -2)
}

// spare gives a list with room behind it that is written on, and the whole of it.
func spare[T any](room T, items ...T) ([]T, []T) {
	whole := append(slices.Clone(items), room, room, room)
	return whole[:len(items)], whole
}

// spoil writes over a list and the room behind it.
func spoil(l []api.Pair) {
	l = l[:cap(l)]
	for i := range l {
		l[i] = api.Pair{A: -99, B: -98}
	}
}

// P5.6: no call changes what is handed in, nor the room behind it; what it tells shares nothing with that, nor with another answer.
func TestMemory(t *testing.T) {
	s := binding(t, bind(2, 5, 6))
	for name, call := range map[string]func(l, m []api.Pair, vars []int) []api.Pair{
		"All":                      func(_, _ []api.Pair, vars []int) []api.Pair { l, _ := All(vars); return l },
		"Norm":                     func(l, _ []api.Pair, _ []int) []api.Pair { return Norm(l) },
		"Norm of a list in order":  func(_, m []api.Pair, _ []int) []api.Pair { return Norm(m) },
		"Union":                    func(l, m []api.Pair, _ []int) []api.Pair { return Union(l, m) },
		"Union with none":          func(_, m []api.Pair, _ []int) []api.Pair { return Union(m, nil) },
		"Only":                     func(l, _ []api.Pair, vars []int) []api.Pair { return Only(l, vars) },
		"Only of a list in order":  func(_, m []api.Pair, vars []int) []api.Pair { return Only(m, vars) },
		"Carry":                    func(l, _ []api.Pair, _ []int) []api.Pair { c, _, _ := Carry(l, s, all); return c },
		"Carry of a list in order": func(_, m []api.Pair, _ []int) []api.Pair { c, _, _ := Carry(m, subst.Subst{}, all); return c },
		"Carry, broken": func(l, _ []api.Pair, _ []int) []api.Pair {
			Carry(append(slices.Clone(l), l[0], api.Pair{}), s, all)
			return ps(0, 1)
		},
		"Has":    func(l, m []api.Pair, _ []int) []api.Pair { Has(l, m[0]); return ps(0, 1) },
		"Breach": func(l, m []api.Pair, _ []int) []api.Pair { Breach(l, s, all, m); Breach(m, s, all, l); return ps(0, 1) },
	} {
		room := api.Pair{A: 77, B: 7}
		l, wholeL := spare(room, ps(3, 1, 2, 1, 1, 2, 2, 3)...)
		m, wholeM := spare(room, ps(1, 2, 1, 3, 2, 3)...)
		vars, wholeVars := spare(77, 3, 2, 1)
		first, second := call(l, m, vars), call(l, m, vars)
		want := slices.Clone(first)
		if len(want) == 0 {
			t.Fatalf("P5.6: %s tells nothing here", name)
		}
		spoil(first)
		if !slices.Equal(second, want) || !slices.Equal(call(l, m, vars), want) {
			t.Errorf("P5.6: %s: an answer changed with another: %v", name, second)
		}
		if !slices.Equal(wholeL, ps(3, 1, 2, 1, 1, 2, 2, 3, 77, 7, 77, 7, 77, 7)) || !slices.Equal(wholeM, ps(1, 2, 1, 3, 2, 3, 77, 7, 77, 7, 77, 7)) || !slices.Equal(wholeVars, []int{3, 2, 1, 77, 77, 77}) {
			t.Errorf("P5.6: %s: what was handed in is %v, %v, %v", name, wholeL, wholeM, wholeVars)
		}
		spoil(wholeL)
		spoil(wholeM)
		if !slices.Equal(second, want) {
			t.Errorf("P5.6: %s: an answer changed with what was handed in: %v", name, second)
		}
	}
	if e, bound := s.Of(2); !bound || !slices.Equal(e, api.Expr{5, 6}) || len(s.Binds()) != 1 {
		t.Errorf("P5.6: the substitution handed in is %v", s.Binds())
	}
}
