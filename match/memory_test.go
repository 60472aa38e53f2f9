package match

import (
	"slices"
	"strconv"
	"sync"
	"testing"

	"lemma/api"
)

// asked are riddles of all sorts: with no match, one, many, too many, and not taken.
func asked() []riddle {
	return []riddle{
		{alone(list("10 11")), alone(list("1 2 10"))}, {alone(list("1 10 11 10")), alone(list("1 2 2 2"))}, {alone(list("13 12 11")), alone(ones(40))},
		{alone(list("10 1")), alone(list("1 2"))}, {alone(nil), alone(nil)}, {alone(list("1 2")), alone(list("1 2"))}, {alone(list("10 11")), alone(nil)},
		{alone(list("10")), alone(ones(41))}, {alone(list("10 11 12 13 14 15")), alone(nil)}, {alone(list("10 10 10 11")), alone(ones(2))},
		{nil, nil}, {lists("10 11, 11, 12 13"), lists("1 2, 2, 10 3 10")}, {lists("10, 11"), lists("1")}, {lists("10 11, 11 10"), lists("1 2, 1 2")}, {lists("14 13, 12 11 10"), lists("1 1 1, 2 2 2 2")},
	}
}

// answers asks all calls, and tells what they answer.
func answers(x riddle) ([][][]api.Bind, string) {
	told, more, code := Lists(x.patterns, x.l, tens)
	all := [][][]api.Bind{told}
	text := allShown(told) + strconv.FormatBool(more) + strconv.Itoa(int(code))
	if len(x.patterns) != 1 || len(x.l) != 1 {
		return all, text
	}
	p, e := x.patterns[0], x.l[0]
	told, more, code = All(p, e, tens)
	first, ok := First(p, e, tens)
	all = append(all, told, [][]api.Bind{first})
	text += allShown(told) + strconv.FormatBool(more) + strconv.Itoa(int(code)) + shown(first) + strconv.FormatBool(ok) + strconv.Itoa(Count(p, e, tens))
	return all, text
}

// roomy gives a copy whose lists have room behind them, in which something stands.
func roomy(l []api.Expr) []api.Expr {
	var all []api.Expr
	for _, e := range l {
		all = append(all, append(slices.Clone(e), 77, 78, 79)[:len(e)])
	}
	return append(all, api.Expr{76}, api.Expr{75})[:len(l)]
}

// untouched tells whether a roomy copy of a list is as it was made.
func untouched(l, made []api.Expr) bool {
	if len(l) != len(made) || !slices.EqualFunc(l[:len(l)+2], append(slices.Clone(made), api.Expr{76}, api.Expr{75}), slices.Equal) {
		return false
	}
	for i, e := range l {
		if !slices.Equal(e[:len(e)+3], append(slices.Clone(made[i]), 77, 78, 79)) {
			return false
		}
	}
	return true
}

// R11: what is handed in stays as it is, and the room behind it.
func TestArguments(t *testing.T) {
	for _, x := range asked() {
		patterns, l := roomy(x.patterns), roomy(x.l)
		before, want := answers(x)
		if _, text := answers(riddle{patterns, l}); text != want {
			t.Errorf("R11: %v, %v: %s, with room behind it %s", x.patterns, x.l, want, text)
		}
		if !untouched(patterns, x.patterns) || !untouched(l, x.l) {
			t.Errorf("R11: %v, %v became %v, %v", x.patterns, x.l, patterns, l)
		}
		if _, text := answers(x); text != want {
			t.Errorf("R13: %v, %v: %s, then %s", x.patterns, x.l, want, text)
		}
		spoilAll(before)
		if _, text := answers(x); text != want {
			t.Errorf("R11: %v, %v: %s, and when the answer was written over %s", x.patterns, x.l, want, text)
		}
	}
}

// R11: answers stay as they are, whatever becomes of what was handed in.
func TestAnswersStay(t *testing.T) {
	for _, x := range asked() {
		patterns, l := roomy(x.patterns), roomy(x.l)
		told, _ := answers(riddle{patterns, l})
		var want []string
		for _, matches := range told {
			want = append(want, allShown(matches))
		}
		for _, e := range append(patterns[:len(patterns)+2], l[:len(l)+2]...) {
			spoilInts(e)
		}
		for i, matches := range told {
			if allShown(matches) != want[i] {
				t.Errorf("R11: %v, %v: %s became %s", x.patterns, x.l, want[i], allShown(matches))
			}
		}
	}
}

func spoilInts(e api.Expr) {
	e = e[:cap(e)]
	for i := range e {
		e[i] = -99
	}
}

// spoilAll writes over all lists of answers, and the room behind them.
func spoilAll(all [][][]api.Bind) {
	for _, matches := range all {
		matches = matches[:cap(matches)]
		for i, m := range matches {
			m = m[:cap(m)]
			for k := range m {
				spoilInts(m[k].Expr)
				m[k] = api.Bind{Var: -99, Expr: api.Expr{-99}}
			}
			matches[i] = nil
		}
	}
}

// R11: no two lists of answers share memory, their spare room neither: each is filled up with a number of its own, and read again when all are.
func TestListsApart(t *testing.T) {
	for _, x := range asked() {
		one, _ := answers(x)
		two, _ := answers(x)
		expressionsApart(t, append(one, two...))
		bindsApart(t, append(one, two...))
		matchesApart(t, append(one, two...))
	}
}

func expressionsApart(t *testing.T, all [][][]api.Bind) {
	t.Helper()
	var each []api.Expr
	for _, m := range slices.Concat(all...) {
		for _, b := range m {
			each = append(each, b.Expr[:cap(b.Expr)])
		}
	}
	for n, e := range each {
		for i := range e {
			e[i] = n
		}
	}
	for n, e := range each {
		if slices.ContainsFunc(e, func(x int) bool { return x != n }) {
			t.Fatalf("R11: the list number %d of all strings shares memory: %v", n, e)
		}
	}
}

func bindsApart(t *testing.T, all [][][]api.Bind) {
	t.Helper()
	each := slices.Concat(all...)
	for n, m := range each {
		m = m[:cap(m)]
		for i := range m {
			m[i] = api.Bind{Var: n}
		}
	}
	for n, m := range each {
		if slices.ContainsFunc(m[:cap(m)], func(b api.Bind) bool { return b.Var != n }) {
			t.Fatalf("R11: the match number %d shares memory: %v", n, m)
		}
	}
}

func matchesApart(t *testing.T, all [][][]api.Bind) {
	t.Helper()
	for n, matches := range all {
		matches = matches[:cap(matches)]
		for i := range matches {
			matches[i] = []api.Bind{{Var: n}}
		}
	}
	for n, matches := range all {
		if slices.ContainsFunc(matches[:cap(matches)], func(m []api.Bind) bool { return m[0].Var != n }) {
			t.Fatalf("R11: the answer number %d shares memory", n)
		}
	}
}

// Functions: vars is asked of the patterns' symbols alone.
func TestVarsAsked(t *testing.T) {
	r := rule(7)
	all := asked()
	for range 300 {
		x := r.riddle(1+r.below(5), 16, 3)
		for i, e := range x.l {
			if len(e) > 0 && r.below(2) == 0 {
				x.l[i][r.below(len(e))] = 10 + r.below(9)
			}
		}
		all = append(all, x)
	}
	for _, x := range all {
		own := slices.Concat(x.patterns...)
		asks := 0
		vars := func(n int) bool {
			asks++
			if !slices.Contains(own, n) {
				t.Fatalf("vars is asked of %d: %v, %v", n, x.patterns, x.l)
			}
			return n >= 10
		}
		Lists(x.patterns, x.l, vars)
		if len(x.patterns) == 1 && len(x.l) == 1 {
			All(x.patterns[0], x.l[0], vars)
			First(x.patterns[0], x.l[0], vars)
			Count(x.patterns[0], x.l[0], vars)
		}
		if asks == 0 && len(own) > 0 && len(x.patterns) == len(x.l) && len(slices.Concat(x.l...)) <= 40 {
			t.Fatalf("vars is not asked: %v, %v", x.patterns, x.l)
		}
	}
}

// R13: the same answers, whoever asks at the same time, in any order.
func TestManyAtOnce(t *testing.T) {
	all := asked()
	var want []string
	for _, x := range all {
		_, text := answers(x)
		want = append(want, text)
	}
	var wait sync.WaitGroup
	for n := range 8 {
		wait.Add(1)
		go func() {
			defer wait.Done()
			for i := range 3 * len(all) {
				at := (i*7 + n) % len(all)
				if told, text := answers(all[at]); text != want[at] {
					t.Errorf("R13: %v, %v: %s, want %s", all[at].patterns, all[at].l, text, want[at])
				} else {
					spoilAll(told)
				}
			}
		}()
	}
	wait.Wait()
}
