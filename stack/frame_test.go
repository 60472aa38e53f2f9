package stack

import (
	"math"
	"slices"
	"testing"

	"lemma/api"
	"lemma/frame"
)

// from100: symbols from 100 on are variables, the others constants.
func from100(n int) bool { return n >= 100 }

func list(e ...int) api.Expr { return e }

func times(length, of int) api.Expr { return slices.Repeat(api.Expr{of}, length) }

// declared is what is declared ahead of a goal: hypotheses in this order (of one symbol: the variable of a floating hypothesis of the type 1; else an essential one), and variables that are distinct.
func declared(t *testing.T, hyps []api.Expr, distinct []int, goal api.Expr) api.Frame {
	t.Helper()
	s := frame.New(from100)
	for _, e := range hyps {
		code := api.OK
		if len(e) == 1 && from100(e[0]) {
			code = s.Float("f", 1, e[0])
		} else {
			code = s.Ess("e", e)
		}
		if code != api.OK {
			t.Fatalf("no hypothesis: %v: %d", e, code)
		}
	}
	if code := s.Dist(distinct); code != api.OK {
		t.Fatalf("not distinct: %v: %d", distinct, code)
	}
	f, code := s.Frame(goal)
	if code != api.OK {
		t.Fatalf("no frame: %v: %d", goal, code)
	}
	return f
}

// with gives a machine with these entries.
func with(t *testing.T, pairs []api.Pair, entries ...api.Expr) *Machine {
	t.Helper()
	m := New(api.Context{Pairs: pairs}, from100)
	for _, e := range entries {
		if code := m.Push(e); code != api.OK {
			t.Fatalf("P11.2: Push(%.60v): %d", e, code)
		}
	}
	return m
}

// results holds the last entry to be this.
func results(t *testing.T, m *Machine, want api.Expr) {
	t.Helper()
	if e, there := m.Top(); !there || !slices.Equal(e, want) {
		t.Errorf("P11.3: the result is %.60v, want %.60v", e, want)
	}
}

// P11.3: floating hypotheses behind essential ones, and between them: each is held against its own entry, all floating ones first.
func TestMixedOrder(t *testing.T) {
	s := frame.New(from100)
	for _, code := range []api.Errno{s.Float("a", 1, 100), s.Ess("e", list(2, 100)), s.Float("b", 3, 101), s.Ess("f", list(2, 101, 100)), s.Float("c", 1, 102)} {
		if code != api.OK {
			t.Fatal(code)
		}
	}
	f, _ := s.Frame(list(2, 102, 101, 100))
	if len(f.Hyps) != 5 {
		t.Fatalf("the frame is %v", f)
	}
	good := []api.Expr{list(1, 7), list(2, 7), list(3, 8, 8), list(2, 8, 8, 7), list(1)}
	m := with(t, nil, good...)
	applied(t, "mixed", m, f, api.OK)
	results(t, m, list(2, 8, 8, 7))
	for i, codes := range [][]api.Errno{{api.ErrKind, api.ErrKind}, {api.ErrHyp, api.ErrHyp}, {api.ErrKind, api.ErrKind}, {api.ErrHyp, api.ErrHyp}, {api.ErrKind, api.ErrKind}} {
		for k, e := range []api.Expr{nil, list(9, 7)} {
			entries := slices.Clone(good)
			entries[i] = e
			applied(t, "one entry is another", with(t, nil, entries...), f, codes[k])
			// A floating hypothesis behind it whose entry is of another type comes ahead of it.
			entries[4] = list(2)
			applied(t, "the last entry is another", with(t, nil, entries...), f, api.ErrKind)
		}
	}
	m = with(t, nil, good[1:]...)
	applied(t, "one entry fewer", m, f, api.ErrUnder)
	// Types are held one by one: each variable has its own.
	applied(t, "the types exchanged", with(t, nil, list(3, 7), list(2, 7), list(1, 8, 8), list(2, 8, 8, 7), list(1)), f, api.ErrKind)
}

// P11.3: of all that is wrong the first is told, in the order of the promise.
func TestOrder(t *testing.T) {
	f := declared(t, []api.Expr{list(100), list(2, 100, 5), list(101)}, list(100, 101), list(2, 100, 101))
	long := times(150, 102)
	tooLongAndOne := append(list(1), long...)
	bad := []api.Expr{tooLongAndOne, list(2), append(list(2), times(150, 103)...)}
	applied(t, "all is wrong, and an entry is missing", with(t, nil, bad[1:]...), f, api.ErrUnder)
	applied(t, "all is wrong", with(t, nil, bad...), f, api.ErrKind)
	bad[2][0] = 1
	applied(t, "all is wrong but the types", with(t, nil, bad...), f, api.ErrHyp)
	bad[1] = slices.Concat(list(2), long, list(5))
	applied(t, "no pair, too long", with(t, nil, bad...), f, api.ErrApart)
	pairs := []api.Pair{{A: 103, B: 102}}
	m := with(t, pairs, bad...)
	applied(t, "too long", m, f, api.ErrTooLong)
	bad[2] = list(1, 103)
	m = with(t, pairs, bad...)
	applied(t, "nothing is wrong", m, f, api.OK)
	results(t, m, slices.Concat(list(2), long, list(103)))
	full := with(t, nil, slices.Repeat([]api.Expr{nil}, 40)...)
	applied(t, "a full stack, too long", full, declared(t, nil, nil, times(201, 4)), api.ErrTooLong)
	applied(t, "a full stack", full, declared(t, nil, nil, times(200, 4)), api.ErrDeep)
	applied(t, "a full stack, and types", full, f, api.ErrKind)
}

// P11.3: hypotheses in order; pairs in order: one that is broken, wherever it stands.
func TestEachIsHeld(t *testing.T) {
	hyps := []api.Expr{list(100), list(101), list(102), list(103), list(2, 100), list(2, 101), list(2, 102)}
	f := declared(t, hyps, list(100, 101, 102, 103), list(2, 103))
	entries := []api.Expr{list(1, 110), list(1, 111), list(1, 112), list(1, 113), list(2, 110), list(2, 111), list(2, 112)}
	var pairs []api.Pair
	for a := 110; a < 114; a++ {
		for b := a + 1; b < 114; b++ {
			pairs = append(pairs, api.Pair{A: b, B: a})
		}
	}
	m := with(t, pairs, entries...)
	applied(t, "six pairs", m, f, api.OK)
	results(t, m, list(2, 113))
	for i := range pairs {
		fewer := slices.Delete(slices.Clone(pairs), i, i+1)
		applied(t, "a pair is missing", with(t, fewer, entries...), f, api.ErrApart)
	}
	for i := range entries {
		want := api.ErrKind
		if i > 3 {
			want = api.ErrHyp
		}
		other := slices.Clone(entries)
		other[i] = list(6, other[i][1])
		applied(t, "an entry is another", with(t, pairs, other...), f, want)
	}
}

// P11.3: an entry is the essential hypothesis or is not, however long either is: nothing is formed.
func TestLongHypotheses(t *testing.T) {
	f := declared(t, []api.Expr{list(100), list(2, 100, 100)}, nil, list(2))
	for _, n := range []int{0, 1, 99, 100, 101, 150, 200, 5000} {
		x := times(n, 7)
		m := with(t, nil, append(list(1), x...), slices.Concat(list(2), x, x))
		applied(t, "it is the entry", m, f, api.OK)
		results(t, m, list(2))
		applied(t, "the entry has one more", with(t, nil, append(list(1), x...), slices.Concat(list(2), x, x, list(7))), f, api.ErrHyp)
		if n > 0 {
			applied(t, "the entry has one fewer", with(t, nil, append(list(1), x...), append(list(2), times(2*n-1, 7)...)), f, api.ErrHyp)
			applied(t, "the last is another", with(t, nil, append(list(1), x...), slices.Concat(list(2), times(2*n-1, 7), list(8))), f, api.ErrHyp)
		}
	}
	// Formed, these would have 2^40 symbols.
	const many = 1 << 20
	f = declared(t, []api.Expr{list(100), append(list(2), times(many, 100)...)}, nil, list(2))
	applied(t, "far too long", with(t, nil, append(list(1), times(many, 7)...), append(list(2), times(many, 7)...)), f, api.ErrHyp)
	applied(t, "far too long, the first is another", with(t, nil, append(list(1), times(many, 7)...), append(list(2), times(many, 8)...)), f, api.ErrHyp)
	applied(t, "nothing, very often", with(t, nil, list(1), list(2)), f, api.OK)
	applied(t, "one symbol, very often", with(t, nil, list(1, 7), append(list(2), times(many, 7)...)), f, api.OK)
}

// P11.3: a goal of MaxExpr symbols and one more; one that is longer by itself may become short.
func TestLongGoals(t *testing.T) {
	twice := declared(t, []api.Expr{list(100)}, nil, list(2, 100, 100))
	for n, want := range map[int]api.Errno{0: api.OK, 1: api.OK, 99: api.OK, 100: api.ErrTooLong, 101: api.ErrTooLong, 1 << 20: api.ErrTooLong} {
		m := with(t, nil, append(list(1), times(n, 7)...))
		applied(t, "twice", m, twice, want)
		if want == api.OK {
			results(t, m, append(list(2), times(2*n, 7)...))
		}
	}
	for n, want := range map[int]api.Errno{199: api.OK, 200: api.ErrTooLong} {
		f := declared(t, []api.Expr{list(100)}, nil, list(2, 100))
		applied(t, "once", with(t, nil, append(list(1), times(n, 7)...)), f, want)
		f = declared(t, nil, nil, append(list(2), times(n, 3)...))
		applied(t, "constants alone", with(t, nil), f, want)
	}
	long := declared(t, []api.Expr{list(100)}, nil, append(list(2), times(1<<20, 100)...))
	m := with(t, nil, list(1))
	applied(t, "a long goal of nothing", m, long, api.OK)
	results(t, m, list(2))
	applied(t, "a long goal", with(t, nil, list(1, 7)), long, api.ErrTooLong)
	// Entries may be longer than MaxExpr, as long as the goal does not have them.
	apart := declared(t, []api.Expr{list(100), list(2, 100)}, nil, list(2))
	applied(t, "a long entry", with(t, nil, append(list(1), times(300, 7)...), append(list(2), times(300, 7)...)), apart, api.OK)
}

// P11.3: a frame with more hypotheses than a stack has room for finds too few entries; one with as many as it has room for takes all.
func TestManyHypotheses(t *testing.T) {
	var hyps []api.Expr
	goal := list(2)
	for v := 100; v < 141; v++ {
		hyps = append(hyps, list(v))
		goal = append(goal, v)
	}
	var entries []api.Expr
	for i := range 40 {
		entries = append(entries, list(1, i))
	}
	applied(t, "41 hypotheses", with(t, nil, entries...), declared(t, hyps, nil, goal), api.ErrUnder)
	m := with(t, nil, entries...)
	applied(t, "40 hypotheses", m, declared(t, hyps[:40], nil, goal[:41]), api.OK)
	want := list(2)
	for i := range 40 {
		want = append(want, i)
	}
	results(t, m, want)
	applied(t, "40 hypotheses, 39 entries", with(t, nil, entries[1:]...), declared(t, hyps[:40], nil, goal[:41]), api.ErrUnder)
}

// P11.3: symbols are any numbers, and vars alone says which are variables.
func TestFarNumbers(t *testing.T) {
	below := func(n int) bool { return n < 0 }
	s := frame.New(below)
	s.Float("a", math.MaxInt, math.MinInt)
	s.Float("b", 0, -1)
	s.Dist(list(-1, math.MinInt))
	f, code := s.Frame(list(math.MaxInt, -1, math.MinInt))
	if code != api.OK || len(f.Hyps) != 2 || len(f.Pairs) != 1 {
		t.Fatalf("the frame is %v, %d", f, code)
	}
	for _, x := range []struct {
		first, second api.Expr
		want          api.Errno
	}{
		{list(math.MaxInt, math.MinInt), list(0, -1), api.OK},
		{list(math.MaxInt, -1), list(0, math.MinInt), api.OK},
		{list(math.MaxInt, -1), list(0, -1), api.ErrApart},
		{list(math.MaxInt, -1), list(0, -2), api.ErrApart},
		{list(math.MaxInt, 100), list(0, 100), api.OK},
		{list(math.MinInt, -1), list(0, 3), api.ErrKind},
		{list(math.MaxInt, -1), list(-1), api.ErrKind},
	} {
		m := New(api.Context{Pairs: []api.Pair{{A: -1, B: math.MinInt}}}, below)
		m.Push(x.first)
		m.Push(x.second)
		applied(t, "far numbers", m, f, x.want)
		if x.want == api.OK {
			results(t, m, slices.Concat(list(math.MaxInt), x.second[1:], x.first[1:]))
		}
	}
}

// P11.2: any list may be pushed, whatever its symbols and its length.
func TestPushAnything(t *testing.T) {
	m := New(api.Context{}, from100)
	for _, e := range []api.Expr{nil, {}, {0}, {100}, {-1, math.MinInt, math.MaxInt}, times(200, 1), times(201, 100), times(1<<20, -7)} {
		if code := m.Push(e); code != api.OK {
			t.Errorf("P11.2: Push of %d symbols: %d", len(e), code)
		}
		results(t, m, e)
	}
	numbers(t, m, 8, 8, 0)
}
