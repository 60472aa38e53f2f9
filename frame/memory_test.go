package frame

import (
	"reflect"
	"slices"
	"strings"
	"testing"
	"unsafe"

	"lemma/api"
)

// furnished gives a stack with something of each kind, in two scopes.
func furnished(t *testing.T) desk {
	d := newDesk(t)
	d.float(api.OK, "f", 1, 100)
	d.float(api.OK, "g", 1, 101)
	d.ess(api.OK, "e", 2, 100, 3)
	d.dist(api.OK, 100, 101, 102)
	d.open(api.OK)
	d.float(api.OK, "h", 1, 102)
	d.ess(api.OK, "i", 2, 102)
	d.dist(api.OK, 103, 102)
	return d
}

// spare gives a list with room behind it that is written on, and the whole of it.
func spare(items ...int) ([]int, []int) {
	whole := append(slices.Clone(items), 77, 77, 77)
	return whole[:len(items)], whole
}

// written tells whether the list or the room behind it was written on.
func written(whole []int, items ...int) bool {
	return !slices.Equal(whole, append(slices.Clone(items), 77, 77, 77))
}

// spoilNumbers and spoilHyps write over lists and the room behind them.
func spoilNumbers(l []int) {
	l = l[:cap(l)]
	for i := range l {
		l[i] = -99
	}
}

func spoilHyps(l []api.Hyp) {
	for _, h := range l {
		spoilNumbers(h.Expr)
	}
	l = l[:cap(l)]
	for i := range l {
		l[i] = api.Hyp{Label: "spoilt", Floating: true, Var: -99}
	}
}

func spoilPairs(l []api.Pair) {
	l = l[:cap(l)]
	for i := range l {
		l[i] = api.Pair{A: -99, B: -98}
	}
}

// 7.9: what is handed in is not changed, nor the room behind it, and may be written over behind the call.
func TestHandedIn(t *testing.T) {
	d := newDesk(t)
	d.float(api.OK, "f", 1, 101)
	d.float(api.OK, "g", 1, 100)
	e, wholeE := spare(2, 101, 100)
	vars, wholeVars := spare(102, 101, 100)
	goal, wholeGoal := spare(3, 101, 100, 101)
	d.ess(api.OK, "e", e...)
	d.dist(api.OK, vars...)
	f, code := d.Frame(goal)
	d.Frame(e)
	d.Dist(e)                 // ErrVar
	d.Ess("w", vars)          // ErrType
	d.Dist(vars[:3:3])        // said already
	d.Dist(goal[1:])          // ErrSame
	d.Ess("w", wholeGoal[:5]) // with a constant behind
	if written(wholeE, 2, 101, 100) || written(wholeVars, 102, 101, 100) || written(wholeGoal, 3, 101, 100, 101) {
		t.Errorf("7.9: handed in is %v, %v, %v", wholeE, wholeVars, wholeGoal)
	}
	was := d.Scope()
	spoilNumbers(wholeE)
	spoilNumbers(wholeVars)
	spoilNumbers(wholeGoal)
	d.same(was, "7.9: what was handed in is written over")
	if code != api.OK || !slices.Equal(f.Goal, api.Expr{3, 101, 100, 101}) {
		t.Errorf("7.9: the goal is %v, %d", f.Goal, code)
	}
	if h := d.Scope().Hyps[2]; !slices.Equal(h.Expr, api.Expr{2, 101, 100}) {
		t.Errorf("7.9: the essential hypothesis is %v", h)
	}
}

// 7.9: what is told is new memory: written over, it changes nothing that is kept or told, and later calls change nothing that was told.
func TestTold(t *testing.T) {
	d, twin := furnished(t), furnished(t)
	goal := api.Expr{2, 101}
	want := twin.Scope()
	wantFrame, _ := twin.Frame(goal)
	first, second := d.Scope(), d.Scope()
	frame, _ := d.Frame(goal)
	frame2, _ := d.Frame(goal)
	spoilHyps(first.Hyps)
	spoilPairs(first.Pairs)
	spoilHyps(frame.Hyps)
	spoilPairs(frame.Pairs)
	spoilNumbers(frame.Goal)
	if !reflect.DeepEqual(second, want) || !reflect.DeepEqual(frame2, wantFrame) {
		t.Errorf("7.9: an answer changed with another: %v, %v", second, frame2)
	}
	d.same(want, "7.9: an answer is written over")
	if again, _ := d.Frame(goal); !reflect.DeepEqual(again, wantFrame) {
		t.Errorf("7.9: the frame is %v, was %v", again, wantFrame)
	}
	d.typed(100, 1, true)
	if !slices.Equal(goal, api.Expr{2, 101}) {
		t.Errorf("7.9: the goal that was handed in is %v", goal)
	}
	d.ess(api.OK, "j", 4)
	d.float(api.OK, "k", 1, 104)
	d.dist(api.OK, 100, 104)
	d.close(api.OK)
	d.open(api.OK)
	d.ess(api.OK, "l", 5)
	d.float(api.OK, "m", 9, 102)
	d.dist(api.OK, 108, 109)
	if !reflect.DeepEqual(second, want) || !reflect.DeepEqual(frame2, wantFrame) {
		t.Errorf("7.9: later calls changed what was told: %v, %v", second, frame2)
	}
}

// 7.9: no list of an answer shares memory with another, of the same answer or of another one.
func TestEachListItsOwn(t *testing.T) {
	d := furnished(t)
	goal := api.Expr{2, 101}
	d.ess(api.OK, "same", goal...)
	at := map[*int]string{unsafe.SliceData(goal): "the goal handed in"}
	note := func(name string, list []int) {
		if other, met := at[unsafe.SliceData(list)]; met {
			t.Errorf("7.9: %s lies where %s does", name, other)
		}
		at[unsafe.SliceData(list)] = name
	}
	for _, name := range ls("first", "second") {
		all := d.Scope()
		f, _ := d.Frame(goal)
		note("the goal of the "+name, f.Goal)
		for i := range all.Hyps {
			note("a hypothesis of the "+name+" scope", all.Hyps[i].Expr)
		}
		for i := range f.Hyps {
			note("a hypothesis of the "+name+" frame", f.Hyps[i].Expr)
		}
	}
}

// 7.9: a label that is a piece of a long text does not keep the text.
func TestLabelsAreCopied(t *testing.T) {
	d := newDesk(t)
	text := strings.Repeat("label ", 10)
	d.float(api.OK, text[:5], 1, 100)
	d.ess(api.OK, text[6:11], 1)
	for i, h := range d.Scope().Hyps {
		if h.Label != "label" || unsafe.StringData(h.Label) == unsafe.StringData(text[6*i:]) {
			t.Errorf("7.9: the label %q lies in the text", h.Label)
		}
	}
}
