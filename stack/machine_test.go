package stack

import (
	"math"
	"slices"
	"strings"
	"testing"

	"lemma/api"
	"lemma/base"
)

// chapter is the text of the chapter's examples, with an assertion that has a pair and one without hypotheses.
const chapter = `$c wff |- -> ( ) $. $v x y z $.
wx $f wff x $. wy $f wff y $. wz $f wff z $.
wi $a wff ( x -> y ) $.
${ min $e |- x $. maj $e |- ( x -> y ) $. mp $a |- y $. $}
${ $d x y $. dp $a wff x y $. $}
none $a wff ( ) $.
t $p wff ( x -> y ) $= wx wy wi $.
late $a wff x $.`

func loaded(t *testing.T, text string) *base.Base {
	t.Helper()
	b, fault := base.Load(text)
	if fault != nil {
		t.Fatalf("the text is refused: %v", *fault)
	}
	return b
}

// desk is a machine with the text that its expressions and frames are of.
type desk struct {
	*Machine
	t *testing.T
	b *base.Base
}

// sit gives a new machine with these pairs and this goal.
func sit(t *testing.T, b *base.Base, goal string, pairs ...api.Pair) desk {
	t.Helper()
	d := desk{t: t, b: b}
	d.Machine = New(api.Context{Pairs: pairs, Goal: d.read(goal)}, b.IsVar)
	return d
}

func (d desk) read(words string) api.Expr {
	d.t.Helper()
	e, code := d.b.Read(strings.Fields(words))
	if code != api.OK {
		d.t.Fatalf("no expression: %q", words)
	}
	return e
}

func (d desk) frame(label string) api.Frame {
	d.t.Helper()
	n, found := d.b.Find(label)
	a, _ := d.b.At(n)
	if !found {
		d.t.Fatalf("no assertion: %q", label)
	}
	return a.Frame
}

func (d desk) pair(words string) api.Pair {
	d.t.Helper()
	e := d.read(words)
	return api.Pair{A: e[0], B: e[1]}
}

// push lays expressions, which must be OK.
func (d desk) push(all ...string) {
	d.t.Helper()
	for _, words := range all {
		was := d.Len()
		if code := d.Push(d.read(words)); code != api.OK || d.Len() != was+1 {
			d.t.Fatalf("P11.2: Push(%s): %d, %d entries behind %d", words, code, d.Len(), was)
		}
		d.top("P11.2", words)
	}
}

// apply applies an assertion: this code, and behind an error everything as it was.
func (d desk) apply(want api.Errno, label string) {
	d.t.Helper()
	applied(d.t, label, d.Machine, d.frame(label), want)
}

// top holds the last entry to be this.
func (d desk) top(promise, want string) {
	d.t.Helper()
	if e, there := d.Top(); !there || d.b.Print(e) != want {
		d.t.Errorf("%s: the top is %s, %v, want %s", promise, d.b.Print(e), there, want)
	}
}

func (d desk) end(want api.Errno) {
	d.t.Helper()
	was := stateOf(d.Machine)
	if code := d.End(); code != want {
		d.t.Errorf("P11.5: End: %d, want %d", code, want)
	}
	unchanged(d.t, "P11.5: End", d.Machine, was)
}

// numbers holds Len, Peak and Count to be these.
func (d desk) numbers(length, peak, count int) {
	d.t.Helper()
	numbers(d.t, d.Machine, length, peak, count)
}

func numbers(t *testing.T, m *Machine, length, peak, count int) {
	t.Helper()
	if m.Len() != length || m.Peak() != peak || m.Count() != count {
		t.Errorf("P11.4: Len %d, Peak %d, Count %d, want %d, %d, %d", m.Len(), m.Peak(), m.Count(), length, peak, count)
	}
}

// state is all that a machine shows, and the entries below the top.
type state struct {
	entries          []api.Expr
	len, peak, count int
	top              api.Expr
	there            bool
	end              api.Errno
}

func stateOf(m *Machine) state {
	s := state{len: m.Len(), peak: m.Peak(), count: m.Count(), end: m.End()}
	s.top, s.there = m.Top()
	for _, e := range m.entries {
		s.entries = append(s.entries, slices.Clone(e))
	}
	return s
}

func (s state) equal(u state) bool {
	return s.len == u.len && s.peak == u.peak && s.count == u.count && s.there == u.there && s.end == u.end && slices.Equal(s.top, u.top) && slices.EqualFunc(s.entries, u.entries, slices.Equal)
}

func unchanged(t *testing.T, name string, m *Machine, was state) {
	t.Helper()
	if s := stateOf(m); !s.equal(was) {
		t.Errorf("%s: %.200v became %.200v", name, was, s)
	}
}

// applied applies a frame: this code, behind an error everything as it was, else one more assertion and the right number of entries.
func applied(t *testing.T, name string, m *Machine, f api.Frame, want api.Errno) {
	t.Helper()
	was := stateOf(m)
	if code := m.Apply(f); code != want {
		t.Fatalf("P11.3: %s: Apply of %.100v: %d, want %d", name, f, code, want)
	}
	if want != api.OK {
		unchanged(t, "P11.3: "+name+": behind an error", m, was)
		return
	}
	length := was.len - len(f.Hyps) + 1
	numbers(t, m, length, max(was.peak, length), was.count+1)
	if !slices.EqualFunc(m.entries[:length-1], was.entries[:length-1], slices.Equal) {
		t.Errorf("P11.3: %s: below the last entries stood %.100v, stands %.100v", name, was.entries, m.entries)
	}
}

// P11.1, P11.4, P11.5: nothing there.
func TestNew(t *testing.T) {
	for _, c := range []api.Context{{}, {Goal: api.Expr{1}}, {Pairs: []api.Pair{{A: 1, B: 1}, {A: 3, B: 2}}, Before: -5, Hyps: []api.Hyp{{Label: "h"}}}, {Goal: make(api.Expr, 500), Before: math.MaxInt}} {
		m := New(c, from100)
		numbers(t, m, 0, 0, 0)
		if e, there := m.Top(); there || len(e) != 0 {
			t.Errorf("P11.4: the top of no entries: %v, %v", e, there)
		}
		if code := m.End(); code != api.ErrLeft {
			t.Errorf("P11.5: End of no entries: %d", code)
		}
	}
}

// P11.1 to P11.5: the chapter's examples, one behind the other.
func TestExamples(t *testing.T) {
	b := loaded(t, chapter)
	d := sit(t, b, "wff ( x -> y )")
	d.push("wff x", "wff y")
	d.numbers(2, 2, 0)
	d.apply(api.OK, "wi")
	d.numbers(1, 2, 1)
	d.top("P11.3", "wff ( x -> y )")
	d.end(api.OK)
	d.push("wff z")
	d.end(api.ErrLeft)
	d = sit(t, b, "wff ( x -> y )")
	d.push("wff y")
	d.end(api.ErrGoal)
	d.apply(api.ErrUnder, "wi")
	d = sit(t, b, "wff ( x -> y )")
	d.end(api.ErrLeft)
	d.apply(api.ErrUnder, "wi")
	d.numbers(0, 0, 0)
	for _, x := range []struct {
		entries []string
		label   string
		want    api.Errno
		top     string
	}{
		{[]string{"wff x", "|- y"}, "wi", api.ErrKind, "|- y"},
		{[]string{"|- x", "wff y"}, "wi", api.ErrKind, "wff y"},
		{[]string{"", "wff y"}, "wi", api.ErrKind, "wff y"},
		{[]string{"wff y", ""}, "wi", api.ErrKind, ""},
		{[]string{"wff x", "wff y", "|- x", "|- ( x -> y )"}, "mp", api.OK, "|- y"},
		{[]string{"wff x", "wff y", "|- x", "|- ( y -> x )"}, "mp", api.ErrHyp, "|- ( y -> x )"},
		{[]string{"wff x", "wff y", "|- x", "wff ( x -> y )"}, "mp", api.ErrHyp, "wff ( x -> y )"},
		{[]string{"wff x", "wff y", "|- y", "|- ( x -> y )"}, "mp", api.ErrHyp, "|- ( x -> y )"},
		{[]string{"wff x", "wff y", "|- x", "|- ( x -> y ) )"}, "mp", api.ErrHyp, "|- ( x -> y ) )"},
		{[]string{"wff x", "wff y", "|- x", "|- ( x -> y"}, "mp", api.ErrHyp, "|- ( x -> y"},
		{[]string{"wff x", "wff y", "", "|- ( x -> y )"}, "mp", api.ErrHyp, "|- ( x -> y )"},
		{[]string{"wff y", "wff x", "|- y", "|- ( y -> x )"}, "mp", api.OK, "|- x"},
		{[]string{"wff ( z -> z )", "wff", "|- ( z -> z )", "|- ( ( z -> z ) -> )"}, "mp", api.OK, "|-"},
		{[]string{"wff", "wff", "|-", "|- ( -> )"}, "mp", api.OK, "|-"},
		{[]string{"wff", "wff y"}, "wi", api.OK, "wff ( -> y )"},
		{[]string{"wff y", "wff"}, "wi", api.OK, "wff ( y -> )"},
		{[]string{"wff y", "wff x"}, "wi", api.OK, "wff ( y -> x )"},
		{[]string{"wff wff", "wff y x y"}, "wi", api.OK, "wff ( wff -> y x y )"},
		{nil, "none", api.OK, "wff ( )"},
	} {
		d := sit(t, b, "|- y")
		d.push(x.entries...)
		d.apply(x.want, x.label)
		if d.Len() > 0 {
			d.top("P11.3", x.top)
		}
		// What lies below the last entries is not looked at.
		d = sit(t, b, "|- y")
		d.push("|-", "", "wff z")
		d.push(x.entries...)
		d.apply(x.want, x.label)
		d.top("P11.3", x.top)
	}
}

// P11.3: all variables are put in at once: what was put in is not looked at again.
func TestAllAtOnce(t *testing.T) {
	d := sit(t, loaded(t, chapter), "")
	d.push("wff y", "wff x", "|- y", "|- ( y -> x )")
	d.apply(api.OK, "mp")
	d.top("P11.3", "|- x")
	d.push("wff y x", "wff x y")
	d.apply(api.OK, "wi")
	d.top("P11.3", "wff ( y x -> x y )")
}

// P11.2, P11.3: a full stack.
func TestFull(t *testing.T) {
	d := sit(t, loaded(t, chapter), "wff x")
	for range api.MaxStack {
		d.push("wff x")
	}
	d.numbers(40, 40, 0)
	was := stateOf(d.Machine)
	for _, e := range []api.Expr{nil, d.read("wff x"), make(api.Expr, 1000)} {
		if code := d.Push(e); code != api.ErrDeep {
			t.Errorf("P11.2: the entry number 41: %d", code)
		}
	}
	unchanged(t, "P11.2: behind an error", d.Machine, was)
	d.apply(api.ErrDeep, "none")
	d.apply(api.OK, "late") // one hypothesis: as many entries as before
	d.numbers(40, 40, 1)
	d.apply(api.OK, "wi")
	d.numbers(39, 40, 2)
	d.apply(api.OK, "none")
	d.numbers(40, 40, 3)
	d.apply(api.ErrDeep, "none")
	d.apply(api.OK, "wi")
	d.push("wff z")
	d.apply(api.ErrDeep, "none")
	for d.Len() > 1 {
		d.apply(api.OK, "wi")
	}
	d.numbers(1, 40, 43)
}

// P11.4: the peak comes by Apply as by Push, and does not fall.
func TestPeak(t *testing.T) {
	d := sit(t, loaded(t, chapter), "wff ( x -> y )")
	d.apply(api.OK, "none")
	d.numbers(1, 1, 1)
	d.apply(api.OK, "none")
	d.numbers(2, 2, 2)
	d.apply(api.OK, "wi")
	d.numbers(1, 2, 3)
	d.top("P11.3", "wff ( ( ) -> ( ) )")
	d.push("|- x")
	d.numbers(2, 2, 3)
	d.apply(api.ErrKind, "wi")
	d.apply(api.OK, "none")
	d.numbers(3, 3, 4)
	d.apply(api.ErrUnder, "mp")
	d.numbers(3, 3, 4)
}

// P11.5: just one entry, and it is the goal, whatever that is.
func TestEnd(t *testing.T) {
	b := loaded(t, chapter)
	for _, goal := range []string{"", "wff", "wff x", "x", "wff x y"} {
		for _, entry := range []string{"", "wff", "wff x", "x", "wff x y", "wff y x", "|- x"} {
			d := sit(t, b, goal)
			d.end(api.ErrLeft)
			d.push(entry)
			if goal == entry {
				d.end(api.OK)
			} else {
				d.end(api.ErrGoal)
			}
			d.push(goal)
			d.end(api.ErrLeft)
			d.push(goal)
			d.end(api.ErrLeft)
		}
	}
	long := api.Expr(slices.Repeat([]int{-3, math.MaxInt}, 5000))
	m := New(api.Context{Goal: long}, from100)
	m.Push(slices.Clone(long))
	if code := m.End(); code != api.OK {
		t.Errorf("P11.5: a goal of 10000 symbols: %d", code)
	}
	m = New(api.Context{Goal: long}, from100)
	m.Push(append(slices.Clone(long[1:]), -3))
	if code := m.End(); code != api.ErrGoal {
		t.Errorf("P11.5: another of 10000 symbols: %d", code)
	}
}

// P11.3: pairs, in the context either way round.
func TestApart(t *testing.T) {
	b := loaded(t, chapter)
	d := sit(t, b, "")
	xy, yx, yz, zx, xx, zz := d.pair("x y"), d.pair("y x"), d.pair("y z"), d.pair("z x"), d.pair("x x"), d.pair("z z")
	for _, x := range []struct {
		entries []string
		pairs   []api.Pair
		want    api.Errno
	}{
		{[]string{"wff z", "wff z"}, nil, api.ErrApart},
		{[]string{"wff z", "wff z"}, []api.Pair{zz}, api.ErrApart},
		{[]string{"wff x z", "wff z y"}, []api.Pair{xy, yz, zx, zz}, api.ErrApart},
		{[]string{"wff x y", "wff -> z ( x"}, []api.Pair{xy, yz, zx, xx}, api.ErrApart},
		{[]string{"wff x", "wff y"}, nil, api.ErrApart},
		{[]string{"wff x", "wff y"}, []api.Pair{xy}, api.OK},
		{[]string{"wff x", "wff y"}, []api.Pair{yx}, api.OK},
		{[]string{"wff x", "wff y"}, []api.Pair{yz, xx, zx}, api.ErrApart},
		{[]string{"wff x", "wff y"}, []api.Pair{yz, xx, zx, yx, xy}, api.OK},
		{[]string{"wff y", "wff x"}, []api.Pair{xy}, api.OK},
		{[]string{"wff |-", "wff y"}, nil, api.OK},
		{[]string{"wff y", "wff |-"}, nil, api.OK},
		{[]string{"wff |-", "wff |-"}, nil, api.OK},
		{[]string{"wff", "wff y"}, nil, api.OK},
		{[]string{"wff y", "wff"}, nil, api.OK},
		{[]string{"wff", "wff"}, nil, api.OK},
		{[]string{"wff x x x", "wff y y"}, []api.Pair{xy}, api.OK},
		{[]string{"wff ( x", "wff -> y z )"}, []api.Pair{xy}, api.ErrApart},
		{[]string{"wff ( x", "wff -> y z )"}, []api.Pair{zx}, api.ErrApart},
		{[]string{"wff ( x", "wff -> y z )"}, []api.Pair{zx, yx}, api.OK},
		{[]string{"wff y z", "wff x"}, []api.Pair{zx, yx}, api.OK},
		{[]string{"wff z y", "wff x"}, []api.Pair{zx}, api.ErrApart},
	} {
		d := sit(t, b, "", x.pairs...)
		d.push("wff x")
		d.push(x.entries...)
		d.apply(x.want, "dp")
	}
}
