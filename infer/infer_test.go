package infer

import (
	"slices"
	"testing"

	"lemma/api"
	"lemma/frame"
)

// from100: symbols from 100 on are variables, the others constants.
func from100(n int) bool { return n >= 100 }

// made is the frame of the hypotheses 1 100, 2 100 5 and 1 101, of the pair 100-101, and of the goal 2 100 101.
func made(t *testing.T) api.Frame {
	t.Helper()
	s := frame.New(from100)
	for _, code := range []api.Errno{s.Float("a", 1, 100), s.Ess("e", api.Expr{2, 100, 5}), s.Float("b", 1, 101), s.Dist([]int{100, 101})} {
		if code != api.OK {
			t.Fatal(code)
		}
	}
	f, code := s.Frame(api.Expr{2, 100, 101})
	if code != api.OK || len(f.Hyps) != 3 || len(f.Pairs) != 1 {
		t.Fatalf("the frame is %v, %d", f, code)
	}
	return f
}

func times(length, of int) api.Expr { return slices.Repeat(api.Expr{of}, length) }

// R7.3: what is made of the parts, and each error, in its order.
func TestApply(t *testing.T) {
	f := made(t)
	have := []api.Pair{{A: 110, B: 111}}
	long := slices.Concat(api.Expr{1}, times(150, 110))
	for _, x := range []struct {
		parts []api.Expr
		code  api.Errno
		want  api.Expr
	}{
		{[]api.Expr{{1, 7}, {2, 7, 5}, {1, 8, 8}}, api.OK, api.Expr{2, 7, 8, 8}},
		{[]api.Expr{{1}, {2, 5}, {1}}, api.OK, api.Expr{2}},
		{[]api.Expr{{1, 110}, {2, 110, 5}, {1, 111}}, api.OK, api.Expr{2, 110, 111}},
		{[]api.Expr{{1, 101}, {2, 101, 5}, {1}}, api.OK, api.Expr{2, 101}},
		{[]api.Expr{{}, {2, 5}, {1}}, api.ErrKind, nil},
		{[]api.Expr{{1}, {3}, {2}}, api.ErrKind, nil},
		{[]api.Expr{{1, 7}, {2, 7}, {1}}, api.ErrHyp, nil},
		{[]api.Expr{{1, 7}, {2, 7, 5, 5}, {1}}, api.ErrHyp, nil},
		{[]api.Expr{{1, 7}, nil, {1}}, api.ErrHyp, nil},
		{[]api.Expr{{1, 110}, {2, 110, 5}, {1, 110}}, api.ErrApart, nil},
		{[]api.Expr{{1, 110}, {2, 110, 5}, {1, 112}}, api.ErrApart, nil},
		{[]api.Expr{long, slices.Concat(api.Expr{2}, long[1:], api.Expr{5}), slices.Concat(api.Expr{1}, times(50, 111))}, api.ErrTooLong, nil},
		{[]api.Expr{long, slices.Concat(api.Expr{2}, long[1:], api.Expr{5}), slices.Concat(api.Expr{1}, times(49, 111))}, api.OK, slices.Concat(api.Expr{2}, long[1:], times(49, 111))},
		{[]api.Expr{long, slices.Concat(api.Expr{2}, long[1:], api.Expr{5}), slices.Concat(api.Expr{1}, times(50, 112))}, api.ErrApart, nil},
		{[]api.Expr{long, {2}, slices.Concat(api.Expr{1}, times(50, 112))}, api.ErrHyp, nil},
	} {
		e, code := Apply(f, x.parts, have, from100)
		if code != x.code || !slices.Equal(e, x.want) {
			t.Errorf("R7.3: of %.100v: %.100v, %d, want %.100v, %d", x.parts, e, code, x.want, x.code)
		}
	}
}

// R11: what is made shares no memory with what is handed in, and that is not changed.
func TestMemory(t *testing.T) {
	f := made(t)
	parts := []api.Expr{{1, 7}, {2, 7, 5}, {1, 8, 8}}
	e, _ := Apply(f, parts, nil, from100)
	for i := range e[:cap(e)] {
		e[:cap(e)][i] = -99
	}
	again, code := Apply(f, parts, nil, from100)
	if code != api.OK || !slices.Equal(again, api.Expr{2, 7, 8, 8}) || !slices.Equal(f.Goal, api.Expr{2, 100, 101}) || !slices.Equal(parts[2], api.Expr{1, 8, 8}) {
		t.Errorf("R11: %v, %d, of %v", again, code, parts)
	}
}
