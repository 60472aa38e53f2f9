package frame

import (
	"math"
	"reflect"
	"slices"
	"testing"

	"lemma/api"
)

// hundreds: the chapter's examples take the numbers from 100 on for variables.
func hundreds(n int) bool { return n >= 100 }

// desk is a stack with short ways to hold its answers against what is wanted.
type desk struct {
	*Stack
	t *testing.T
}

func newDesk(t *testing.T) desk { return desk{New(hundreds), t} }

func (d desk) errno(want, got api.Errno, what string, args ...any) {
	d.t.Helper()
	if got != want {
		d.t.Errorf("%s%v: %d, want %d", what, args, got, want)
	}
}

func (d desk) open(want api.Errno)  { d.t.Helper(); d.errno(want, d.Open(), "Open") }
func (d desk) close(want api.Errno) { d.t.Helper(); d.errno(want, d.Close(), "Close") }

func (d desk) float(want api.Errno, label string, typ, v int) {
	d.t.Helper()
	d.errno(want, d.Float(label, typ, v), "Float", label, typ, v)
}

func (d desk) ess(want api.Errno, label string, e ...int) {
	d.t.Helper()
	d.errno(want, d.Ess(label, e), "Ess", label, len(e), e[:min(len(e), 30)])
}

func (d desk) dist(want api.Errno, vars ...int) {
	d.t.Helper()
	d.errno(want, d.Dist(vars), "Dist", len(vars), vars[:min(len(vars), 30)])
}

func (d desk) typed(v, typ int, want bool) {
	d.t.Helper()
	if n, ok := d.Type(v); n != typ || ok != want {
		d.t.Errorf("Type(%d): %d, %v, want %d, %v", v, n, ok, typ, want)
	}
}

// scope wants these labels and these pairs, and the depth.
func (d desk) scope(depth int, labels []string, pairs ...int) {
	d.t.Helper()
	all := d.Scope()
	if d.Depth() != depth || !slices.Equal(labelsOf(all.Hyps), labels) || !slices.Equal(all.Pairs, ps(pairs...)) {
		d.t.Errorf("Scope: %v, depth %d, want %v, %v, %d", all, d.Depth(), labels, pairs, depth)
	}
}

// frame wants these labels and these pairs for a goal.
func (d desk) frame(goal api.Expr, labels []string, pairs ...int) {
	d.t.Helper()
	f, code := d.Frame(goal)
	if code != api.OK || !slices.Equal(labelsOf(f.Hyps), labels) || !slices.Equal(f.Pairs, ps(pairs...)) || !slices.Equal(f.Goal, goal) {
		d.t.Errorf("Frame(%v): %v, %d, want %v, %v", goal, f, code, labels, pairs)
	}
}

// noFrame wants an error, and nothing beside it.
func (d desk) noFrame(want api.Errno, goal ...int) {
	d.t.Helper()
	f, code := d.Frame(goal)
	if code != want || len(f.Hyps)+len(f.Pairs)+len(f.Goal) > 0 {
		d.t.Errorf("Frame(%v): %v, %d, want %d", goal, f, code, want)
	}
}

// same wants all that is told to be as it was, by the labels, the expressions and the pairs.
func (d desk) same(was api.Scope, what string) {
	d.t.Helper()
	if is := d.Scope(); !reflect.DeepEqual(is, was) {
		d.t.Errorf("%s: the scope is %v, was %v", what, is, was)
	}
}

func labelsOf(l []api.Hyp) []string {
	var labels []string
	for _, h := range l {
		labels = append(labels, h.Label)
	}
	return labels
}

// ps gives the pairs that are written out one behind the other.
func ps(n ...int) []api.Pair {
	var l []api.Pair
	for i := 0; i+1 < len(n); i += 2 {
		l = append(l, api.Pair{A: n[i], B: n[i+1]})
	}
	return l
}

// allOf gives every two of some numbers, one behind the other.
func allOf(rising []int) []int {
	var l []int
	for i, a := range rising {
		for _, b := range rising[i+1:] {
			l = append(l, a, b)
		}
	}
	return l
}

func ls(l ...string) []string { return l }

// count gives so many numbers from one on.
func count(n, from int) []int {
	var l []int
	for i := range n {
		l = append(l, from+i)
	}
	return l
}

// 7.1, 7.5 to 7.7: a new stack.
func TestNew(t *testing.T) {
	d := newDesk(t)
	d.scope(0, nil)
	d.typed(100, 0, false)
	d.typed(1, 0, false)
	d.frame(api.Expr{1}, nil)
	d.noFrame(api.ErrType)
	d.close(api.ErrScope)
	d.scope(0, nil)
}

// 7.1 to 7.7: the chapter's examples.
func TestExamples(t *testing.T) {
	d := newDesk(t)
	d.float(api.OK, "vx", 1, 100)
	d.float(api.OK, "vy", 1, 101)
	d.dist(api.OK, 100, 101)

	d.float(api.ErrVar, "w", 1, 5)
	d.float(api.ErrType, "w", 100, 100)
	d.float(api.ErrFloat, "w", 2, 100)
	d.float(api.ErrVar, "w", 101, 5)
	d.typed(100, 1, true)
	d.typed(102, 0, false)
	d.ess(api.ErrType, "e")
	d.ess(api.ErrType, "e", 100, 1)
	d.ess(api.ErrFloat, "e", 2, 102)
	d.scope(0, ls("vx", "vy"), 100, 101)

	d.open(api.OK)
	d.float(api.OK, "vz", 1, 102)
	d.dist(api.OK, 102, 100, 101)
	d.ess(api.OK, "e1", 2, 102)
	d.scope(1, ls("vx", "vy", "vz", "e1"), 100, 101, 100, 102, 101, 102)
	d.frame(api.Expr{2, 100, 100}, ls("vx", "vz", "e1"), 100, 102)
	d.frame(api.Expr{3}, ls("vz", "e1"))
	d.noFrame(api.ErrType)
	d.noFrame(api.ErrFloat, 2, 103)

	d.close(api.OK)
	d.scope(0, ls("vx", "vy"), 100, 101)
	d.frame(api.Expr{2, 100, 101}, ls("vx", "vy"), 100, 101)
	d.frame(api.Expr{3}, nil)
	d.ess(api.OK, "e", 2, 100)
	d.scope(0, ls("vx", "vy", "e"), 100, 101)
}

// 7.1: sixteen scopes, and one more; all closed, and one more; the refused calls leave all as it is.
func TestDepth(t *testing.T) {
	d := newDesk(t)
	d.close(api.ErrScope)
	for round := range 2 {
		for n := range api.MaxDepth {
			d.open(api.OK)
			d.float(api.OK, "f", n, 100+n)
			d.scope(n+1, slices.Repeat(ls("f"), n+1))
		}
		was := d.Scope()
		d.open(api.ErrScope)
		d.open(api.ErrScope)
		d.same(was, "Open beyond MaxDepth")
		d.typed(100+api.MaxDepth-1, api.MaxDepth-1, true)
		for n := api.MaxDepth - 1; n >= 0; n-- {
			d.close(api.OK)
			d.scope(n, slices.Repeat(ls("f"), n))
			d.typed(100+n, 0, false)
		}
		d.close(api.ErrScope)
		if d.Depth() != 0 {
			t.Errorf("7.1: round %d: depth %d", round, d.Depth())
		}
	}
}

// 7.1: Close takes what was declared since its Open, inside scopes that were opened and closed in between as well, and nothing else.
func TestClose(t *testing.T) {
	d := newDesk(t)
	d.float(api.OK, "a", 1, 100)
	d.open(api.OK)
	d.float(api.OK, "b", 1, 101)
	d.dist(api.OK, 100, 101)
	d.open(api.OK)
	d.float(api.OK, "c", 1, 102)
	d.ess(api.OK, "ec", 2, 102)
	d.dist(api.OK, 102, 101)
	d.close(api.OK)
	d.scope(1, ls("a", "b"), 100, 101)
	d.ess(api.OK, "eb", 2, 101)
	d.scope(1, ls("a", "b", "eb"), 100, 101)
	d.close(api.OK)
	d.scope(0, ls("a"))
	d.typed(100, 1, true)
	d.typed(101, 0, false)
	d.float(api.OK, "d", 1, 103)
	d.scope(0, ls("a", "d"))
}

// 7.2: what is declared; the order ErrVar, ErrType, ErrFloat where two hold at once; the refused ones declare nothing.
func TestFloat(t *testing.T) {
	d := newDesk(t)
	d.float(api.OK, "first", 7, 100)
	want := []api.Hyp{{Label: "first", Floating: true, Var: 100, Expr: api.Expr{7, 100}}}
	if l := d.Scope().Hyps; !reflect.DeepEqual(l, want) {
		t.Errorf("7.2: declared is %v, want %v", l, want)
	}
	was := d.Scope()
	d.float(api.ErrVar, "w", 1, 5)
	d.float(api.ErrVar, "w", 5, 5)
	d.float(api.ErrVar, "w", 100, 5)
	d.float(api.ErrType, "w", 101, 102)
	d.float(api.ErrType, "w", 102, 102)
	d.float(api.ErrType, "w", 101, 100)
	d.float(api.ErrType, "w", 100, 100)
	d.float(api.ErrFloat, "w", 1, 100)
	d.float(api.ErrFloat, "first", 7, 100)
	d.same(was, "7.2: refused")
	d.typed(102, 0, false)
	d.open(api.OK)
	d.float(api.ErrFloat, "w", 1, 100)
	d.float(api.OK, "", -3, 101)
	d.typed(101, -3, true)
}

// 7.2, 7.5: a variable may get another type behind the Close of its floating hypothesis's scope.
func TestAnotherType(t *testing.T) {
	d := newDesk(t)
	d.open(api.OK)
	d.float(api.OK, "f", 1, 100)
	d.float(api.ErrFloat, "g", 2, 100)
	d.close(api.OK)
	d.typed(100, 0, false)
	d.ess(api.ErrFloat, "e", 3, 100)
	d.noFrame(api.ErrFloat, 3, 100)
	d.open(api.OK)
	d.float(api.OK, "g", 2, 100)
	d.typed(100, 2, true)
	d.frame(api.Expr{3, 100}, ls("g"))
	d.close(api.OK)
	d.float(api.OK, "h", 0, 100)
	d.typed(100, 0, true)
	d.open(api.OK)
	d.float(api.ErrFloat, "i", 1, 100)
	d.close(api.OK)
	d.typed(100, 0, true)
	d.scope(0, ls("h"))
}

// 7.3: what is declared; the order ErrType, ErrFloat where both hold; any length; the refused ones declare nothing.
func TestEss(t *testing.T) {
	d := newDesk(t)
	d.float(api.OK, "f", 1, 100)
	d.ess(api.OK, "e", 2, 100, 3, 100)
	if h := d.Scope().Hyps[1]; !reflect.DeepEqual(h, api.Hyp{Label: "e", Var: -1, Expr: api.Expr{2, 100, 3, 100}}) {
		t.Errorf("7.3: declared is %v", h)
	}
	was := d.Scope()
	d.ess(api.ErrType, "w")
	d.errno(api.ErrType, d.Ess("w", api.Expr{}), "Ess of an empty list that is not nil")
	d.ess(api.ErrType, "w", 100)
	d.ess(api.ErrType, "w", 100, 2)
	d.ess(api.ErrType, "w", 101)
	d.ess(api.ErrType, "w", 100, 101)
	d.ess(api.ErrFloat, "w", 2, 101)
	d.ess(api.ErrFloat, "w", 2, 100, 3, 100, 101)
	d.same(was, "7.3: refused")
	d.ess(api.OK, "alone", 2)
	long := append(api.Expr{2}, slices.Repeat([]int{100, 4}, 50*api.MaxExpr)...)
	if code := d.Ess("long", long); code != api.OK {
		t.Errorf("7.3: a long expression: %d", code)
	}
	if f, code := d.Frame(long); code != api.OK || !slices.Equal(f.Goal, long) || len(f.Hyps) != 4 || !slices.Equal(f.Hyps[3].Expr, long) {
		t.Errorf("7.3, 7.7: a long expression: a goal of %d symbols, %d hypotheses, %d", len(f.Goal), len(f.Hyps), code)
	}
	if code := d.Ess("w", append(slices.Clone(long), 101)); code != api.ErrFloat {
		t.Errorf("7.3: a long expression with an untyped variable at its end: %d", code)
	}
	d.scope(0, ls("f", "e", "alone", "long"))
	d.typed(-1, 0, false)
}

// 7.4: none and one declare nothing; the order ErrVar, ErrSame, ErrMany where two or three hold at once.
func TestDistErrors(t *testing.T) {
	d := newDesk(t)
	d.dist(api.OK)
	d.dist(api.OK, 100)
	d.scope(0, nil)
	d.dist(api.OK, 100, 101)
	was := d.Scope()
	d.dist(api.ErrVar, 5)
	d.dist(api.ErrVar, 100, 5)
	d.dist(api.ErrVar, 5, 5)
	d.dist(api.ErrVar, 100, 100, 5)
	d.dist(api.ErrVar, 5, 100, 100)
	d.dist(api.ErrSame, 100, 100)
	d.dist(api.ErrSame, 102, 101, 100, 102)
	many := count(24, 200)
	d.dist(api.ErrMany, many...)
	d.dist(api.ErrSame, append(many, 223)...)
	d.dist(api.ErrSame, append([]int{223}, many...)...)
	d.dist(api.ErrVar, append(many, 5)...)
	d.dist(api.ErrVar, append(many, 223, 5)...)
	d.dist(api.OK, 101, 100)
	d.same(was, "7.4: refused, or said already")
}

// 7.4: lists far above what dist.All takes: the order of errors is the same.
func TestDistOfLongLists(t *testing.T) {
	d := newDesk(t)
	d.dist(api.ErrSame, slices.Repeat([]int{100}, 513)...)
	d.dist(api.ErrSame, slices.Repeat([]int{100, 101}, 100000)...)
	for _, n := range []int{25, 511, 512, 513, 514, 100000} {
		d.dist(api.ErrMany, count(n, 100)...)
		d.dist(api.ErrSame, append(count(n, 100), 100)...)
		d.dist(api.ErrVar, append(count(n, 100), 100, 99)...)
	}
	d.scope(0, nil)
}

// 7.4: 23 variables in one Dist and 24; pairs that are active already count once; up to just MaxPairs and one more.
func TestMaxPairs(t *testing.T) {
	d := newDesk(t)
	l := count(24, 100)
	d.dist(api.ErrMany, l...)
	d.scope(0, nil)
	d.dist(api.OK, l[:23]...)
	was := d.Scope()
	if len(was.Pairs) != 253 {
		t.Fatalf("7.4: 23 variables make %d pairs", len(was.Pairs))
	}
	d.dist(api.OK, l[:23]...)
	slices.Reverse(l)
	d.dist(api.OK, l[1:]...)
	d.dist(api.OK, l[3:9]...)
	d.same(was, "7.4: the same again")
	d.dist(api.ErrMany, l...)
	d.dist(api.ErrMany, 200, 201, 202, 203)
	d.dist(api.ErrMany, 200, 100, 101, 102, 103)
	d.same(was, "7.4: refused")
	d.dist(api.OK, 200, 100, 101, 102)
	full := d.Scope()
	if len(full.Pairs) != api.MaxPairs {
		t.Fatalf("7.4: %d pairs", len(full.Pairs))
	}
	d.dist(api.ErrMany, 100, 300)
	d.dist(api.ErrMany, 100, 101, 201)
	d.dist(api.OK, 102, 200, 101)
	d.dist(api.OK, l[1:]...)
	d.dist(api.OK, 300)
	d.same(full, "7.4: MaxPairs")
}

// 7.4: the pairs of all open scopes count together, and those of closed ones no more.
func TestMaxPairsOverScopes(t *testing.T) {
	d := newDesk(t)
	for n := range api.MaxDepth {
		d.dist(api.OK, count(6, 100+6*n)...)
		d.open(api.OK)
	}
	d.dist(api.OK, count(6, 100)...) // declared outside
	d.dist(api.OK, count(6, 196)...)
	if n := len(d.Scope().Pairs); n != 17*15 {
		t.Fatalf("7.4: %d pairs", n)
	}
	d.dist(api.ErrMany, 300, 301, 302)
	d.dist(api.OK, 300, 301)
	d.dist(api.ErrMany, 300, 302)
	d.close(api.OK)
	if n := len(d.Scope().Pairs); n != 16*15 {
		t.Fatalf("7.4: %d pairs behind a Close", n)
	}
	d.dist(api.OK, count(6, 500)...)
	d.dist(api.ErrMany, 300, 301, 302)
	d.dist(api.OK, 300, 301)
	d.dist(api.ErrMany, 300, 302)
	for range api.MaxDepth - 1 {
		d.close(api.OK)
	}
	d.scope(0, nil, allOf(count(6, 100))...)
	d.dist(api.ErrMany, count(23, 600)...)
	d.dist(api.OK, count(22, 600)...)
	d.dist(api.OK, count(5, 700)...)
	d.dist(api.ErrMany, 705, 700)
}

// 7.4, 7.6: a pair that was declared outside and once more inside stays when the inner scope closes; one that was declared inside alone goes.
func TestPairsOutsideAndInside(t *testing.T) {
	d := newDesk(t)
	d.dist(api.OK, 101, 100)
	d.open(api.OK)
	d.dist(api.OK, 100, 101)
	d.dist(api.OK, 102, 101, 100)
	d.open(api.OK)
	d.dist(api.OK, 103, 102, 100)
	d.scope(2, nil, 100, 101, 100, 102, 100, 103, 101, 102, 102, 103)
	d.close(api.OK)
	d.scope(1, nil, 100, 101, 100, 102, 101, 102)
	d.close(api.OK)
	d.scope(0, nil, 100, 101)
	d.open(api.OK)
	d.dist(api.OK, 100, 102)
	d.close(api.OK)
	d.dist(api.OK, 102, 100)
	d.scope(0, nil, 100, 101, 100, 102)
}

// 7.4: variables without a type may be distinct: pairs and types are apart; a frame has none of them.
func TestPairsWithoutTypes(t *testing.T) {
	d := newDesk(t)
	d.dist(api.OK, 100, 101, 102)
	d.float(api.OK, "f", 1, 101)
	d.frame(api.Expr{2, 101}, ls("f"))
	d.float(api.OK, "g", 1, 100)
	d.frame(api.Expr{2, 101}, ls("f"))
	d.frame(api.Expr{2, 101, 100}, ls("f", "g"), 100, 101)
}

// 7.6, 7.7: the order is that of declaring, mixed; pairs are told A below B, in order, however they were declared.
func TestOrder(t *testing.T) {
	d := newDesk(t)
	d.float(api.OK, "z", 1, 109)
	d.ess(api.OK, "e", 2, 109)
	d.float(api.OK, "a", 1, 101)
	d.open(api.OK)
	d.ess(api.OK, "c", 2)
	d.float(api.OK, "b", 1, 100)
	d.dist(api.OK, 109, 101)
	d.dist(api.OK, 109, 100)
	d.dist(api.OK, 101, 100)
	d.ess(api.OK, "d", 2, 101)
	all := ls("z", "e", "a", "c", "b", "d")
	d.scope(1, all, 100, 101, 100, 109, 101, 109)
	d.frame(api.Expr{2, 100}, all, 100, 101, 100, 109, 101, 109)
	d.frame(api.Expr{2, 109}, ls("z", "e", "a", "c", "d"), 101, 109)
	d.close(api.OK)
	d.frame(api.Expr{2, 101}, ls("z", "e", "a"))
	d.frame(api.Expr{2}, ls("z", "e"))
}

// 7.2, 7.3: labels are any strings, and alike ones stand side by side.
func TestLabelsAlike(t *testing.T) {
	d := newDesk(t)
	d.float(api.OK, "x", 1, 100)
	d.float(api.OK, "x", 2, 101)
	d.ess(api.OK, "x", 3, 100)
	d.ess(api.OK, "x", 3, 100)
	d.open(api.OK)
	d.ess(api.OK, "", 4)
	d.ess(api.OK, "a b\x00\xff$(", 4)
	d.float(api.OK, "", 1, 102)
	d.scope(1, ls("x", "x", "x", "x", "", "a b\x00\xff$(", ""))
	d.frame(api.Expr{5, 101}, ls("x", "x", "x", "x", "", "a b\x00\xff$("))
	d.frame(api.Expr{5}, ls("x", "x", "x", "", "a b\x00\xff$("))
	d.close(api.OK)
	d.typed(101, 2, true)
	d.scope(0, ls("x", "x", "x", "x"))
}

// 7.7: ErrType and ErrFloat of the goal, ErrType first; with an error there is no frame.
func TestFrameErrors(t *testing.T) {
	d := newDesk(t)
	d.float(api.OK, "f", 1, 100)
	d.ess(api.OK, "e", 2, 100)
	d.noFrame(api.ErrType)
	d.noFrame(api.ErrType, 100)
	d.noFrame(api.ErrType, 101)
	d.noFrame(api.ErrType, 100, 101)
	d.noFrame(api.ErrFloat, 2, 101)
	d.noFrame(api.ErrFloat, 2, 100, 100, 101, 3)
	if f, code := d.Frame(api.Expr{}); code != api.ErrType || len(f.Hyps) > 0 {
		t.Errorf("7.7: Frame of an empty list: %v, %d", f, code)
	}
	d.frame(api.Expr{99}, ls("f", "e"))
}

// 7.7: variables that hypotheses alone need are mandatory, wherever these stand; their pairs too.
func TestNeededByHypothesesAlone(t *testing.T) {
	d := newDesk(t)
	for i, label := range ls("v0", "v1", "v2", "v3") {
		d.float(api.OK, label, 1, 100+i)
	}
	d.dist(api.OK, count(4, 100)...)
	d.frame(api.Expr{2, 103}, ls("v3"))
	d.ess(api.OK, "e", 2, 102, 100)
	d.frame(api.Expr{2}, ls("v0", "v2", "e"), 100, 102)
	d.frame(api.Expr{2, 103, 103}, ls("v0", "v2", "v3", "e"), 100, 102, 100, 103, 102, 103)
	d.open(api.OK)
	d.ess(api.OK, "i", 3, 101)
	d.frame(api.Expr{2}, ls("v0", "v1", "v2", "e", "i"), 100, 101, 100, 102, 101, 102)
	d.close(api.OK)
	d.frame(api.Expr{2}, ls("v0", "v2", "e"), 100, 102)
}

// 7.2 to 7.7: symbols are any ints; the variable -1 is not what an essential hypothesis's Var says.
func TestAnyNumbers(t *testing.T) {
	below := func(n int) bool { return n < 0 }
	d := desk{New(below), t}
	d.float(api.OK, "one", math.MaxInt, -1)
	d.float(api.OK, "least", 0, math.MinInt)
	d.ess(api.OK, "e", 5, math.MaxInt)
	d.dist(api.OK, -1, math.MinInt, -2)
	d.typed(-1, math.MaxInt, true)
	d.typed(math.MinInt, 0, true)
	d.scope(0, ls("one", "least", "e"), math.MinInt, -2, math.MinInt, -1, -2, -1)
	d.frame(api.Expr{0}, ls("e"))
	d.frame(api.Expr{0, math.MinInt}, ls("least", "e"))
	d.frame(api.Expr{0, -1}, ls("one", "e"))
	d.frame(api.Expr{0, -1, math.MinInt}, ls("one", "least", "e"), math.MinInt, -1)
	d.noFrame(api.ErrFloat, 0, -2)

	every := desk{New(func(int) bool { return true }), t}
	every.float(api.ErrType, "w", 0, 0)
	every.ess(api.ErrType, "w", 0)
	every.dist(api.OK, 0, -1)
	every.scope(0, nil, -1, 0)
	none := desk{New(func(int) bool { return false }), t}
	none.float(api.ErrVar, "w", 0, 0)
	none.ess(api.OK, "e", 100, 101)
	none.dist(api.ErrVar, 0)
	none.dist(api.OK)
	none.frame(api.Expr{7, 8}, ls("e"))
}

// 7.7: Frame declares nothing, whether it answers or refuses.
func TestFrameDeclaresNothing(t *testing.T) {
	d := newDesk(t)
	d.float(api.OK, "f", 1, 100)
	d.float(api.OK, "g", 1, 101)
	d.ess(api.OK, "e", 2, 100)
	d.dist(api.OK, 100, 101)
	d.open(api.OK)
	was := d.Scope()
	first, _ := d.Frame(api.Expr{2, 101})
	for _, goal := range []api.Expr{{2, 101}, {3}, {2, 102}, nil, {100}} {
		d.Frame(goal)
		d.same(was, "7.7: Frame")
	}
	if again, _ := d.Frame(api.Expr{2, 101}); !reflect.DeepEqual(again, first) || d.Depth() != 1 {
		t.Errorf("7.7: the frame is %v, was %v", again, first)
	}
	d.typed(102, 0, false)
}

// Section 'Types': two stacks have nothing in common, and vars is kept by each.
func TestTwoStacks(t *testing.T) {
	d, other := newDesk(t), desk{New(func(n int) bool { return n < 10 }), t}
	d.float(api.OK, "f", 1, 100)
	other.float(api.ErrVar, "f", 1, 100)
	other.float(api.OK, "g", 100, 1)
	other.open(api.OK)
	other.dist(api.OK, 1, 2)
	d.scope(0, ls("f"))
	other.scope(1, ls("g"), 1, 2)
	d.close(api.ErrScope)
}

// 7.2 to 7.7: many hypotheses, in one scope: each is found at once.
func TestMany(t *testing.T) {
	d := newDesk(t)
	const n = 20000
	whole := api.Expr{1}
	for i := range n {
		if d.Float("f", i%100, 100+i) != api.OK {
			t.Fatalf("7.2: number %d is refused", i)
		}
		whole = append(whole, 100+n-1-i)
	}
	d.ess(api.OK, "e", whole...)
	d.typed(100+n-1, (n-1)%100, true)
	f, code := d.Frame(api.Expr{3})
	if code != api.OK || len(f.Hyps) != n+1 || f.Hyps[n-1].Var != 100+n-1 || f.Hyps[n].Floating {
		t.Errorf("7.7: %d hypotheses, %d", len(f.Hyps), code)
	}
}
