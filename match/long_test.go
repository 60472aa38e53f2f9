package match

import (
	"slices"
	"testing"

	"lemma/api"
	"lemma/subst"
)

// rule is a row of numbers that is always the same.
type rule uint64

func (r *rule) below(n int) int {
	*r = *r*6364136223846793005 + 1442695040888963407
	return int(uint64(*r)>>33) % n
}

// string gives at most so many symbols, mostly of few kinds, so that parts come again.
func (r *rule) string(most, kinds int) api.Expr {
	var e api.Expr
	for range r.below(most + 1) {
		e = append(e, r.below(kinds))
	}
	return e
}

// A riddle is patterns with expressions.
type riddle struct {
	patterns, l []api.Expr
}

// riddle gives patterns of at most so many variables, and expressions made of them, most of them by a substitution, some altered at a place.
func (r *rule) riddle(vars, most, kinds int) riddle {
	for {
		var binds []api.Bind
		for v := range vars {
			binds = append(binds, api.Bind{Var: 10 + v*7%11, Expr: r.string(1+most/vars, kinds)})
		}
		s, code := subst.New(binds)
		if code != api.OK {
			panic("a variable twice")
		}
		var x riddle
		size := 0
		for range 1 + r.below(4)*r.below(2) {
			p := r.pattern(binds, kinds)
			e, _ := s.Apply(p)
			if len(e) > 0 && r.below(5) == 0 {
				e[r.below(len(e))] = r.below(kinds)
			}
			x.patterns, x.l = append(x.patterns, p), append(x.l, e)
			size += len(e)
		}
		if size <= most {
			return x
		}
	}
}

func (r *rule) pattern(binds []api.Bind, kinds int) api.Expr {
	var p api.Expr
	for range r.below(2 * len(binds)) {
		if r.below(4) == 0 {
			p = append(p, r.below(kinds))
		} else {
			p = append(p, binds[r.below(len(binds))].Var)
		}
	}
	return p
}

// byLengths finds the matches by going through all lengths of strings, in their order: where the first place of each variable is follows from the lengths ahead of it; whether they fit is seen when all are put in.
func byLengths(x riddle, vars func(int) bool) [][]api.Bind {
	var told [][]api.Bind
	vs := order(x.patterns, vars)
	room := len(slices.Concat(x.l...))
	var binds []api.Bind
	var choose func(room int)
	choose = func(room int) {
		if len(binds) == len(vs) {
			s, _ := subst.New(binds)
			for i, p := range x.patterns {
				if made, _ := s.Apply(p); !slices.Equal(made, x.l[i]) {
					return
				}
			}
			told = append(told, s.Binds())
			return
		}
		v := vs[len(binds)]
		rest, stands := behind(x, v, binds)
		for n := 0; stands && n <= min(room, len(rest)); n++ {
			binds = append(binds, api.Bind{Var: v, Expr: rest[:n]})
			choose(room - n)
			binds = binds[:len(binds)-1]
		}
	}
	choose(room)
	return told
}

// behind gives what is left of an expression from the first place of a variable on, if it reaches as far.
func behind(x riddle, v int, binds []api.Bind) (api.Expr, bool) {
	s, _ := subst.New(binds)
	for i, p := range x.patterns {
		if at := slices.Index(p, v); at >= 0 {
			if n := s.Size(p[:at]); n <= len(x.l[i]) {
				return x.l[i][n:], true
			}
			return nil, false
		}
	}
	panic("no place")
}

// lengthsHold compares all calls with what the lengths give, and answers how many matches there are.
func lengthsHold(t *testing.T, x riddle) int {
	t.Helper()
	want := byLengths(x, tens)
	told, more := taken(t, x.patterns, x.l, tens)
	if more != (len(want) > 256) || allShown(told) != allShown(want[:min(len(want), 256)]) {
		t.Fatalf("P20.1, P20.4: %v, %v: %s, %v, want %s", x.patterns, x.l, allShown(told), more, allShown(want))
	}
	return len(want)
}

// P20.1 to P20.6: patterns and expressions by a fixed rule, of all sizes that are taken.
func TestLong(t *testing.T) {
	r := rule(20)
	came := map[string]int{}
	for _, size := range []struct{ rounds, vars, most int }{{300, 1, 40}, {600, 2, 40}, {600, 3, 40}, {500, 4, 24}, {400, 5, 16}} {
		for range size.rounds {
			x := r.riddle(size.vars, size.most, 1+r.below(3))
			n := lengthsHold(t, x)
			switch {
			case n > 256:
				came["more"]++
			case n > 1:
				came["some"]++
			case n == 1:
				came["one"]++
			default:
				came["none"]++
			}
			if n > 1 && len(x.patterns) > 1 {
				came["some, of lists"]++
			}
		}
	}
	for _, kind := range []string{"more", "some", "one", "none", "some, of lists"} {
		if came[kind] < 20 {
			t.Errorf("%s came %d times", kind, came[kind])
		}
	}
}

// P20.1 to P20.3: up to five variables in patterns by a fixed rule, and 30 to 40 symbols of one kind: the matches are the ways to make that many.
func TestFiveVariables(t *testing.T) {
	r := rule(5)
	for range 60 {
		var p api.Expr
		for range 5 + r.below(6) {
			p = append(p, 14-r.below(5))
		}
		n := r.below(11) + 30
		counts := [5]int{}
		for _, x := range p {
			counts[x-10]++
		}
		want := min(sums(counts[:], n), 257)
		if told, more := taken(t, []api.Expr{p}, []api.Expr{make(api.Expr, n)}, tens); len(told) != min(want, 256) || more != (want > 256) {
			t.Fatalf("P20.1: %v, %d: %d, %v, want %d", p, n, len(told), more, want)
		}
	}
}

// sums counts the ways to make n of so many times numbers from 0 on; a number that is taken no times is 0.
func sums(times []int, n int) int {
	if len(times) == 0 {
		if n == 0 {
			return 1
		}
		return 0
	}
	if times[0] == 0 {
		return sums(times[1:], n)
	}
	ways := 0
	for ; n >= 0; n -= times[0] {
		ways += sums(times[1:], n)
	}
	return ways
}
