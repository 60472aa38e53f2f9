package subst

import (
	"math"
	"slices"
	"testing"
	"unsafe"

	"lemma/api"
)

func run(length, of int) api.Expr { return slices.Repeat(api.Expr{of}, length) }

// bind is short for a variable with what stands for it.
func bind(v int, e ...int) api.Bind { return api.Bind{Var: v, Expr: e} }

func made(t *testing.T, binds ...api.Bind) Subst {
	t.Helper()
	s, code := New(binds)
	if code != api.OK {
		t.Fatalf("P4.1: New(%v): %d", binds, code)
	}
	return s
}

func same(a, b []api.Bind) bool {
	return slices.EqualFunc(a, b, func(x, y api.Bind) bool { return x.Var == y.Var && slices.Equal(x.Expr, y.Expr) })
}

func checkBinds(t *testing.T, name string, s Subst, want ...api.Bind) {
	t.Helper()
	if l := s.Binds(); !same(l, want) {
		t.Errorf("%s: binds %.200v, want %.200v", name, l, want)
	}
}

// checkApply holds Apply and Size against what is wanted of them.
func checkApply(t *testing.T, s Subst, e, want api.Expr) {
	t.Helper()
	if x, code := s.Apply(e); code != api.OK || !slices.Equal(x, want) {
		t.Errorf("P4.5: Apply(%.60v) = %.200v, %d, want %.200v", e, x, code, want)
	}
	if n := s.Size(e); n != len(want) {
		t.Errorf("P4.4: Size(%.60v) = %d, want %d", e, n, len(want))
	}
}

func checkTooLong(t *testing.T, s Subst, e api.Expr) {
	t.Helper()
	if x, code := s.Apply(e); code != api.ErrTooLong || len(x) != 0 {
		t.Errorf("P4.5: Apply(%.60v), %d symbols: %d symbols, %d", e, len(e), len(x), code)
	}
	if n := s.Size(e); n != 201 {
		t.Errorf("P4.4: Size(%.60v), %d symbols: %d", e, len(e), n)
	}
}

// nothing holds a Subst to be the one that binds nothing.
func nothing(t *testing.T, name string, s Subst) {
	t.Helper()
	checkBinds(t, name, s)
	for _, v := range []int{0, 7, -1, math.MinInt, math.MaxInt} {
		if e, bound := s.Of(v); bound || len(e) != 0 {
			t.Errorf("%s: Of(%d) = %v, %v", name, v, e, bound)
		}
	}
	checkApply(t, s, api.Expr{7, 0, -1, 7}, api.Expr{7, 0, -1, 7})
}

// chapter gives the two of the chapter's examples.
func chapter(t *testing.T) (Subst, Subst) {
	t.Helper()
	return made(t, bind(7, 1, 8), bind(8)), made(t, bind(8, 7, 7), bind(9, 9))
}

// P4.1: a variable that stands twice, side by side or apart, first, last or between, with the same list or another.
func TestNewRefuses(t *testing.T) {
	for _, binds := range [][]api.Bind{
		{bind(7, 1), bind(8, 2), bind(7, 1)},
		{bind(7, 1), bind(7, 1)}, {bind(7), bind(7)}, {bind(7), {Var: 7, Expr: api.Expr{}}}, {bind(7, 7), bind(7, 7)},
		{bind(7, 1), bind(7, 2)}, {bind(7, 1), bind(7)},
		{bind(3), bind(2), bind(1), bind(2)}, {bind(5), bind(1), bind(9), bind(2), bind(5)}, {bind(1), bind(9), bind(5), bind(9)},
		{bind(0), bind(0)}, {bind(-1), bind(4), bind(-1)}, {bind(math.MinInt), bind(math.MaxInt), bind(math.MinInt)}, {bind(math.MaxInt), bind(0), bind(math.MaxInt)},
		{bind(7, run(300, 1)...), bind(7, run(300, 1)...)},
	} {
		s, code := New(binds)
		if code != api.ErrBind {
			t.Errorf("P4.1: New(%.100v): %d", binds, code)
		}
		nothing(t, "P4.1: beside an error", s)
	}
	long := make([]api.Bind, 0, 5001)
	for n := range 5000 {
		long = append(long, bind(n*7919%5000, n))
	}
	made(t, long...)
	for _, at := range []int{0, 1, 2500, 4998, 4999} {
		if _, code := New(append(slices.Clone(long), bind(long[at].Var, 1))); code != api.ErrBind {
			t.Errorf("P4.1: 5000 variables and the number %d once more: %d", at, code)
		}
	}
}

// P4.1, P4.2: what a variable may be bound to, and the binds of any order told in rising order.
func TestNewAndBinds(t *testing.T) {
	odd := []api.Bind{bind(math.MinInt, 1), bind(-7, -7, 3, -7), bind(-1), bind(0, 0), bind(5, 5, 5), bind(6, run(5000, 6)...), bind(math.MaxInt, math.MinInt)}
	for i, binds := range orders(odd) {
		s := made(t, binds...)
		if !same(s.Binds(), odd) {
			t.Fatalf("P4.2: order %d: binds %.200v", i, s.Binds())
		}
	}
	nothing(t, "P4.1: New of nil", made(t))
	s, code := New([]api.Bind{})
	if code != api.OK {
		t.Errorf("P4.1: New of no binds: %d", code)
	}
	nothing(t, "P4.1: New of no binds", s)
	nothing(t, "the zero Subst", Subst{})
	first, second := chapter(t)
	checkBinds(t, "P4.2: the chapter's s", first, bind(7, 1, 8), bind(8))
	checkBinds(t, "P4.2: the chapter's t", second, bind(8, 7, 7), bind(9, 9))
}

// orders gives a list in every order.
func orders(list []api.Bind) [][]api.Bind {
	if len(list) == 0 {
		return [][]api.Bind{nil}
	}
	var all [][]api.Bind
	for i := range list {
		rest := slices.Delete(slices.Clone(list), i, i+1)
		for _, order := range orders(rest) {
			all = append(all, append(order, list[i]))
		}
	}
	return all
}

// P4.3: bound, bound to nothing, to itself, not bound, in between and beyond.
func TestOf(t *testing.T) {
	s := made(t, bind(7, 1, 8), bind(8), bind(math.MinInt, 2), bind(11, 11), bind(math.MaxInt, 3), bind(20, run(1000, 4)...))
	for v, want := range map[int]api.Expr{7: {1, 8}, 8: nil, math.MinInt: {2}, 11: {11}, math.MaxInt: {3}, 20: run(1000, 4)} {
		if e, bound := s.Of(v); !bound || !slices.Equal(e, want) {
			t.Errorf("P4.3: Of(%d) = %.60v, %v", v, e, bound)
		}
	}
	for _, v := range []int{9, 6, 0, -1, 1, 10, 12, 19, 21, math.MinInt + 1, math.MaxInt - 1} {
		if e, bound := s.Of(v); bound || len(e) != 0 {
			t.Errorf("P4.3: Of(%d) = %v, %v, though it is not bound", v, e, bound)
		}
	}
}

// P4.4, P4.5: the chapter's examples; all at once; what was put in is not looked at again; symbols that are no symbols.
func TestApply(t *testing.T) {
	s, _ := chapter(t)
	checkApply(t, s, api.Expr{2, 7, 8, 7, 9}, api.Expr{2, 1, 8, 1, 8, 9})
	checkApply(t, s, nil, nil)
	checkApply(t, s, api.Expr{}, nil)
	checkApply(t, s, api.Expr{8, 8, 8}, nil)
	checkApply(t, s, api.Expr{8, 9, 8}, api.Expr{9})
	turned := made(t, bind(7, 8), bind(8, 7))
	checkApply(t, turned, api.Expr{7, 8}, api.Expr{8, 7})
	checkApply(t, turned, api.Expr{8, 7, 7, 1}, api.Expr{7, 8, 8, 1})
	round := made(t, bind(1, 2), bind(2, 3), bind(3, 1))
	checkApply(t, round, api.Expr{1, 2, 3, 4}, api.Expr{2, 3, 1, 4})
	itself := made(t, bind(7, 7), bind(8, 8, 8), bind(9, 1, 9, 1))
	checkApply(t, itself, api.Expr{7, 8, 9}, api.Expr{7, 8, 8, 1, 9, 1})
	odd := made(t, bind(-1, math.MaxInt), bind(math.MinInt, -1, 0), bind(math.MaxInt))
	checkApply(t, odd, api.Expr{-1, math.MaxInt, math.MinInt, -2, 0}, api.Expr{math.MaxInt, -1, 0, -2, 0})
}

// P4.4, P4.5: MaxExpr symbols and one more, of bound and unbound symbols.
func TestLimit(t *testing.T) {
	s := made(t, bind(7, run(101, 1)...))
	checkTooLong(t, s, api.Expr{7, 7})
	checkApply(t, s, api.Expr{7, 1}, run(102, 1))
	s = made(t, bind(7, run(200, 1)...), bind(8))
	checkApply(t, s, api.Expr{7}, run(200, 1))
	checkApply(t, s, api.Expr{8, 7, 8, 8}, run(200, 1))
	checkTooLong(t, s, api.Expr{7, 1})
	checkTooLong(t, s, api.Expr{1, 7})
	checkTooLong(t, s, api.Expr{7, 8, 8, 8, 8, 1})
	checkTooLong(t, s, append(api.Expr{7, 1}, run(500, 8)...))
	checkTooLong(t, made(t, bind(7, run(201, 1)...)), api.Expr{7})
	for k := range api.MaxExpr + 1 {
		s := made(t, bind(7, run(k, 1)...), bind(8, 7))
		rest := run(api.MaxExpr-k, 2)
		checkApply(t, s, append(api.Expr{7}, rest...), append(run(k, 1), rest...))
		checkApply(t, s, append(slices.Clone(rest), 7), append(slices.Clone(rest), run(k, 1)...))
		checkTooLong(t, s, append(api.Expr{7, 8}, rest...))
		checkTooLong(t, s, append(slices.Clone(rest), 3, 7))
		checkTooLong(t, s, append(append(slices.Clone(rest), 7), 9))
	}
	checkApply(t, Subst{}, run(200, 5), run(200, 5))
	checkTooLong(t, Subst{}, run(201, 5))
}

// P4.4: lengths whose sum or product would be huge are counted, not made; a long list may become a short one.
func TestHugeSizes(t *testing.T) {
	const many = 1 << 20
	s := made(t, bind(7, run(many, 1)...), bind(8), bind(9, 1))
	checkTooLong(t, s, api.Expr{7})
	checkTooLong(t, s, run(many, 7))
	checkTooLong(t, s, run(many, 9))
	checkTooLong(t, s, run(many, 3))
	checkApply(t, s, run(many, 8), nil)
	checkApply(t, s, append(run(many, 8), 9, 2), api.Expr{1, 2})
	checkTooLong(t, s, append(run(many, 8), 7, 8))
	checkApply(t, s, append(append(run(100, 9), run(many, 8)...), run(100, 2)...), append(run(100, 1), run(100, 2)...))
}

// then is s.Then(t), which must be OK.
func then(t *testing.T, s, behind Subst) Subst {
	t.Helper()
	both, code := s.Then(behind)
	if code != api.OK {
		t.Fatalf("P4.6: Then: %d", code)
	}
	return both
}

func thenTooLong(t *testing.T, s, behind Subst) {
	t.Helper()
	both, code := s.Then(behind)
	if code != api.ErrTooLong {
		t.Errorf("P4.6: %.60v, then %.60v: %d", s.Binds(), behind.Binds(), code)
	}
	nothing(t, "P4.6: beside an error", both)
}

// P4.6: the chapter's examples, nothing ahead and nothing behind, variables bound to themselves.
func TestThen(t *testing.T) {
	s, u := chapter(t)
	checkBinds(t, "P4.6: s.Then(t)", then(t, s, u), bind(7, 1, 7, 7), bind(8), bind(9, 9))
	checkBinds(t, "P4.6: t.Then(s)", then(t, u, s), bind(7, 1, 8), bind(8, 1, 8, 1, 8), bind(9, 9))
	checkBinds(t, "P4.6: s, then nothing", then(t, s, Subst{}), s.Binds()...)
	checkBinds(t, "P4.6: nothing, then s", then(t, Subst{}, s), s.Binds()...)
	nothing(t, "P4.6: nothing, then nothing", then(t, Subst{}, made(t)))
	itself := made(t, bind(7, 7), bind(6, 6))
	checkBinds(t, "P4.6: 7 for 7, then s", then(t, itself, s), bind(6, 6), bind(7, 1, 8), bind(8))
	checkBinds(t, "P4.6: s, then 8 for 8", then(t, s, made(t, bind(8, 8))), bind(7, 1, 8), bind(8))
	turned := made(t, bind(7, 8), bind(8, 7))
	checkBinds(t, "P4.6: there and back", then(t, turned, turned), bind(7, 7), bind(8, 8))
	grown := made(t, bind(7, 7, 7))
	checkBinds(t, "P4.6: twice twice", then(t, grown, grown), bind(7, 7, 7, 7, 7))
	ends := made(t, bind(math.MinInt, 0), bind(math.MaxInt, 0))
	checkBinds(t, "P4.6: far apart", then(t, made(t, bind(-1), bind(1)), ends), bind(math.MinInt, 0), bind(-1), bind(1), bind(math.MaxInt, 0))
}

// P4.6: MaxExpr symbols and one more, of what s and t do together and of what t alone does; too long ahead of t, and short behind it.
func TestThenLimit(t *testing.T) {
	gone := made(t, bind(2))
	long := made(t, bind(1, run(300, 2)...))
	checkBinds(t, "P4.6: 300 symbols that go", then(t, long, gone), bind(1), bind(2))
	checkBinds(t, "P4.6: 300 symbols of which 200 go", then(t, made(t, bind(1, append(run(200, 2), run(100, 3)...)...)), gone), bind(1, run(100, 3)...), bind(2))
	thenTooLong(t, gone, long)
	thenTooLong(t, long, Subst{})
	thenTooLong(t, Subst{}, long)
	thenTooLong(t, long, made(t, bind(3)))
	thenTooLong(t, made(t, bind(9, run(201, 2)...)), made(t, bind(2, 2)))
	full := made(t, bind(1, run(200, 2)...))
	checkBinds(t, "P4.6: 200 symbols, then nothing", then(t, full, Subst{}), bind(1, run(200, 2)...))
	checkBinds(t, "P4.6: nothing, then 200 symbols", then(t, gone, full), bind(1, run(200, 2)...), bind(2))
	thenTooLong(t, full, made(t, bind(2, 2, 2)))
	half := made(t, bind(1, run(100, 2)...), bind(3, 2))
	checkBinds(t, "P4.6: 100 symbols twice", then(t, half, made(t, bind(2, 4, 5))), bind(1, slices.Repeat(api.Expr{4, 5}, 100)...), bind(2, 4, 5), bind(3, 4, 5))
	thenTooLong(t, made(t, bind(1, append(run(100, 2), 6)...)), made(t, bind(2, 4, 5)))
	for _, v := range []int{-5, 1, 2, 3, 9} {
		// The bind that is too long is the first, one between, or the last.
		thenTooLong(t, made(t, bind(0, 1), bind(5), bind(v, run(201, 7)...)), made(t, bind(4), bind(6, 6)))
		thenTooLong(t, made(t, bind(0, 8), bind(5)), made(t, bind(4), bind(6, 6), bind(v, run(201, 7)...)))
	}
	// What t binds is too long by itself, and s binds that variable to something else: then it is not asked.
	checkBinds(t, "P4.6: t's long list is not put in", then(t, made(t, bind(1, 5)), long), bind(1, 5))
	huge := made(t, bind(1, run(1<<20, 2)...))
	thenTooLong(t, huge, made(t, bind(2, run(1<<20, 3)...)))
	checkBinds(t, "P4.6: very many that go", then(t, huge, gone), bind(1), bind(2))
}

// P4.7: the chapter's examples; variables in any order, more than once, unbound ones; all; a long list of them.
func TestOnly(t *testing.T) {
	s, _ := chapter(t)
	checkBinds(t, "P4.7: Only(8 3 8)", s.Only([]int{8, 3, 8}), bind(8))
	nothing(t, "P4.7: Only()", s.Only(nil))
	nothing(t, "P4.7: Only of an empty list", s.Only([]int{}))
	nothing(t, "P4.7: Only of unbound ones", s.Only([]int{6, 9, 0, -1, math.MinInt, math.MaxInt}))
	nothing(t, "P4.7: Only of nothing bound", Subst{}.Only([]int{7, 8}))
	checkBinds(t, "P4.7: Only(8 7)", s.Only([]int{8, 7}), bind(7, 1, 8), bind(8))
	checkBinds(t, "P4.7: Only(9 7 7 9 7)", s.Only([]int{9, 7, 7, 9, 7}), bind(7, 1, 8))
	checkApply(t, s.Only([]int{8}), api.Expr{7, 8}, api.Expr{7})
	long := made(t, bind(math.MaxInt, run(300, 1)...), bind(-3, -3), bind(math.MinInt))
	checkBinds(t, "P4.7: Only of far ones", long.Only([]int{math.MaxInt, 0, math.MinInt}), bind(math.MinInt), bind(math.MaxInt, run(300, 1)...))
	checkBinds(t, "P4.7: Only of one, very often", s.Only(run(1<<20, 8)), bind(8))
}

// P4.8: an expression that holds no bound symbol stays; a list is put in part by part, also at MaxExpr.
func TestPartByPart(t *testing.T) {
	s := made(t, bind(7, run(50, 1)...), bind(8), bind(2))
	free := append(run(150, 3), run(50, -4)...)
	checkApply(t, s, free, free)
	e := api.Expr{7, 8, 7, 2, 8, 7, 7}
	for i := range len(e) + 1 {
		checkApply(t, s, e, run(200, 1))
		checkTooLong(t, s, slices.Concat(e[:i], api.Expr{3}, e[i:]))
		first, codeFirst := s.Apply(e[:i])
		last, codeLast := s.Apply(e[i:])
		if codeFirst != api.OK || codeLast != api.OK || !slices.Equal(slices.Concat(first, last), run(200, 1)) {
			t.Errorf("P4.8: parted at %d: %v, %d, and %v, %d", i, first, codeFirst, last, codeLast)
		}
	}
}

// P4.8: what is too long behind both is too long by both together, and what fits fits.
func TestThenAtTheLimit(t *testing.T) {
	s := made(t, bind(7, 8, 9), bind(6, 7))
	for k := range 101 {
		u := made(t, bind(8, run(k, 1)...), bind(9, run(100, 9)...), bind(7))
		both := then(t, s, u)
		for _, e := range []api.Expr{{7}, {8}, {7, 6}, {7, 6, 5}, {7, 5}, {7, 8}, {7, 9}, {8, 8}, {5, 8, 8}, {6}} {
			first, code := s.Apply(e)
			if code != api.OK {
				t.Fatalf("P4.8: Apply(%v): %d", e, code)
			}
			want, wantCode := u.Apply(first)
			got, gotCode := both.Apply(e)
			if gotCode != wantCode || !slices.Equal(got, want) {
				t.Errorf("P4.8: %d symbols, %v: %d symbols, %d, want %d, %d", k, e, len(got), gotCode, len(want), wantCode)
			}
		}
	}
}

// spare gives a list with room behind it that is written on, and the whole of it.
func spare(items ...int) (api.Expr, api.Expr) {
	whole := append(slices.Clone(items), 77, 78, 79)
	return whole[:len(items)], whole
}

// spoil writes over a list and the room behind it.
func spoil(list api.Expr) {
	list = list[:cap(list)]
	for i := range list {
		list[i] = -99
	}
}

// spoilBinds writes over binds, their lists and the room behind them.
func spoilBinds(binds []api.Bind) {
	for _, b := range binds {
		spoil(b.Expr)
	}
	binds = binds[:cap(binds)]
	for i := range binds {
		binds[i] = bind(-98, -97)
	}
}

// P4.9: what is handed to New stays, its spare room too, and may be written over behind it.
func TestNewKeepsNothing(t *testing.T) {
	a, wholeA := spare(1, 8)
	b, wholeB := spare()
	handed := append(make([]api.Bind, 0, 8), api.Bind{Var: 8, Expr: b}, api.Bind{Var: 7, Expr: a})
	room := handed[:3]
	room[2] = bind(55, 56)
	s := made(t, handed...)
	if _, code := New(append(slices.Clone(handed), bind(8, 3))); code != api.ErrBind {
		t.Fatalf("P4.1: a variable twice: %d", code)
	}
	if !same(room, []api.Bind{bind(8), bind(7, 1, 8), bind(55, 56)}) || !slices.Equal(wholeA, api.Expr{1, 8, 77, 78, 79}) || !slices.Equal(wholeB, api.Expr{77, 78, 79}) {
		t.Errorf("P4.9: what was handed in is %v, %v, %v", room, wholeA, wholeB)
	}
	spoilBinds(handed)
	checkBinds(t, "P4.9: what was handed in is written over", s, bind(7, 1, 8), bind(8))
	checkApply(t, s, api.Expr{7, 8}, api.Expr{1, 8})
}

// P4.9: one list handed in for two variables is two lists within.
func TestOneListTwice(t *testing.T) {
	e := api.Expr{1, 2}
	s := made(t, api.Bind{Var: 7, Expr: e}, api.Bind{Var: 8, Expr: e[:1]})
	binds := s.Binds()
	spoil(binds[0].Expr)
	if !slices.Equal(binds[1].Expr, api.Expr{1}) {
		t.Errorf("P4.9: the second list of an answer changed with the first: %v", binds[1].Expr)
	}
	checkBinds(t, "P4.9: an answer is written over", s, bind(7, 1, 2), bind(8, 1))
}

// P4.9: no list that is told is part of the Subst, of another answer, or of the expression handed in.
func TestAnswersAreNew(t *testing.T) {
	s := made(t, bind(7, 1, 8), bind(8, 2), bind(9))
	for name, call := range map[string]func(e api.Expr) api.Expr{
		"Of(7)":    func(api.Expr) api.Expr { e, _ := s.Of(7); return e },
		"Binds":    func(api.Expr) api.Expr { return s.Binds()[0].Expr },
		"Apply(e)": func(e api.Expr) api.Expr { x, _ := s.Apply(e); return x },
		"Apply(7)": func(api.Expr) api.Expr { x, _ := s.Apply(api.Expr{7}); return x },
		"nothing":  func(e api.Expr) api.Expr { x, _ := Subst{}.Apply(e); return x },
		"Of Only":  func(api.Expr) api.Expr { e, _ := s.Only([]int{7}).Of(7); return e },
		"Of Then":  func(api.Expr) api.Expr { u, _ := s.Then(Subst{}); e, _ := u.Of(7); return e },
	} {
		e, whole := spare(4, 7, 5)
		first, second := call(e), call(e)
		want := slices.Clone(first)
		spoil(first)
		if !slices.Equal(second, want) || !slices.Equal(call(e), want) {
			t.Errorf("P4.9: %s: an answer changed with another: %v, %v", name, second, call(e))
		}
		if !slices.Equal(whole, api.Expr{4, 7, 5, 77, 78, 79}) {
			t.Errorf("P4.9: %s: what was handed in is %v", name, whole)
		}
		spoil(e)
		if !slices.Equal(second, want) {
			t.Errorf("P4.9: %s: an answer changed with what was handed in: %v", name, second)
		}
		checkBinds(t, "P4.9: "+name, s, bind(7, 1, 8), bind(8, 2), bind(9))
	}
	binds := s.Binds()
	spoilBinds(binds)
	checkBinds(t, "P4.9: Binds", s, bind(7, 1, 8), bind(8, 2), bind(9))
}

// P4.9, R11: what Only, Then and New make leans on nothing of what they were made of.
func TestMadeOfNothingOld(t *testing.T) {
	s := made(t, bind(7, 1, 8), bind(8, 2))
	u := made(t, bind(8, 3), bind(9, 4, 4))
	lists := map[string]api.Expr{}
	keep := func(name string, s Subst) {
		for _, b := range s.binds {
			lists[name+string(rune('0'+b.Var))] = b.Expr
		}
	}
	keep("s", s)
	keep("u", u)
	keep("only", s.Only([]int{8, 7}))
	keep("then", then(t, s, u))
	keep("then nothing", then(t, s, Subst{}))
	keep("nothing then", then(t, Subst{}, u))
	at := map[*int]string{}
	for name, list := range lists {
		if other, met := at[unsafe.SliceData(list)]; met {
			t.Errorf("P4.9: %s and %s are one list", name, other)
		}
		at[unsafe.SliceData(list)] = name
	}
	vars := []int{8, 7, 8, 3}
	s.Only(vars[:3])
	if !slices.Equal(vars, []int{8, 7, 8, 3}) {
		t.Errorf("R11: the variables handed to Only are %v", vars)
	}
	checkBinds(t, "P4.9: s", s, bind(7, 1, 8), bind(8, 2))
	checkBinds(t, "P4.9: t", u, bind(8, 3), bind(9, 4, 4))
}

// Section 'Types': a Subst is a value: a copy is as good, whatever is done with the other.
func TestCopies(t *testing.T) {
	s, u := chapter(t)
	other := s
	s = then(t, s, u)
	checkBinds(t, "a copy", other, bind(7, 1, 8), bind(8))
	checkApply(t, other, api.Expr{7}, api.Expr{1, 8})
	checkApply(t, s, api.Expr{7}, api.Expr{1, 7, 7})
}
