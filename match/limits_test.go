package match

import (
	"slices"
	"testing"
	"time"

	"lemma/api"
)

// ones is so many times the symbol 1.
func ones(n int) api.Expr { return slices.Repeat(api.Expr{1}, n) }

// countIs compares how many matches there are, of which 256 are told.
func countIs(t *testing.T, patterns, l []api.Expr, want int) {
	t.Helper()
	told, more := taken(t, patterns, l, tens)
	if len(told) != min(want, 256) || more != (want > 256) {
		t.Errorf("P20.1, P20.3, P20.4: %.200v, %.200v: %d, %v, want %d", patterns, l, len(told), more, want)
	}
}

// alone makes a pattern, or an expression, a list of one.
func alone(e api.Expr) []api.Expr { return []api.Expr{e} }

// P20.1 to P20.4: 40 symbols are taken, 41 are not, whatever the pattern; also spread over several expressions.
func TestSymbols(t *testing.T) {
	for _, p := range []string{"10", "10 11", "10 10", "1", "", "10 1"} {
		notTaken(t, alone(list(p)), alone(ones(41)), tens)
		notTaken(t, alone(list(p)), alone(ones(1000)), tens)
	}
	notTaken(t, alone(ones(41)), alone(ones(41)), tens)
	countIs(t, alone(ones(40)), alone(ones(40)), 1)
	countIs(t, alone(list("10")), alone(ones(40)), 1)
	countIs(t, alone(list("10 11")), alone(ones(40)), 41)
	countIs(t, alone(list("10 10")), alone(ones(40)), 1)
	countIs(t, alone(list("2")), alone(ones(40)), 0)
	notTaken(t, lists("10, 11"), []api.Expr{ones(20), ones(21)}, tens)
	notTaken(t, lists("10, 10"), []api.Expr{ones(21), ones(20)}, tens)
	notTaken(t, lists("10, 11"), []api.Expr{ones(41), nil}, tens)
	notTaken(t, lists("10, 11"), []api.Expr{nil, ones(41)}, tens)
	notTaken(t, lists("2, 11"), []api.Expr{ones(1), ones(40)}, tens)
	countIs(t, lists("10, 11"), []api.Expr{ones(20), ones(20)}, 1)
	countIs(t, lists("10, 11"), []api.Expr{nil, ones(40)}, 1)
	countIs(t, lists("10, 11 12"), []api.Expr{ones(1), ones(39)}, 40)
	each := slices.Repeat(alone(ones(1)), 40)
	countIs(t, slices.Repeat(alone(list("10")), 40), each, 1)
	countIs(t, slices.Repeat(alone(list("10 11")), 40), each, 2)
	notTaken(t, slices.Repeat(alone(list("10")), 41), append(each, ones(1)), tens)
}

// P20.1 to P20.4: 256 matches are told; of more it is said that there are.
func TestMatches(t *testing.T) {
	countIs(t, alone(list("10 11 12")), alone(ones(40)), 861)
	countIs(t, alone(list("10 11 12 13 14")), alone(ones(40)), 135751)
	countIs(t, alone(list("10 11 12")), alone(ones(21)), 253)
	countIs(t, alone(list("10 11 12")), alone(ones(22)), 276)
	in16 := slices.Concat(ones(15), api.Expr{2}, ones(15))
	countIs(t, alone(list("10 11 2 12 13")), alone(in16), 256)
	// One cut at the 2 behind 3 symbols, and one at the 2 behind 12: 4 * 22 and 13 * 13 matches.
	two := slices.Concat(ones(3), api.Expr{2}, ones(8), api.Expr{2}, ones(12))
	countIs(t, alone(list("10 11 2 12 13")), alone(two), 257)
	countIs(t, alone(list("13 11 2 12 10")), alone(two), 257)
	countIs(t, lists("10 11, 12 13"), []api.Expr{ones(15), ones(15)}, 256)
	countIs(t, lists("10 11, 12 13"), []api.Expr{ones(15), ones(16)}, 272)
	countIs(t, lists("10 11 2 12 13, 14"), []api.Expr{two, ones(15)}, 257)
	countIs(t, lists("14, 10 11 2 12 13"), []api.Expr{nil, two}, 257)
}

// P20.1: the first 256 are told, not any, and the last one told is the 256th.
func TestFirstMatches(t *testing.T) {
	told, _ := taken(t, alone(list("12 10 11")), alone(ones(40)), tens)
	at := 0
	for x := range 41 {
		for y := range 41 - x {
			if at == len(told) {
				return
			}
			want := shown([]api.Bind{{Var: 10, Expr: ones(y)}, {Var: 11, Expr: ones(40 - x - y)}, {Var: 12, Expr: ones(x)}})
			if shown(told[at]) != want {
				t.Fatalf("P20.1: the match number %d is %s, want %s", at, shown(told[at]), want)
			}
			at++
		}
	}
}

// P20.1 to P20.4: five different variables are taken, six are not, e empty too; also spread over several patterns; one variable many times is one.
func TestSpread(t *testing.T) {
	five, six := list("14 10 13 11 12"), list("14 10 13 11 12 15")
	for _, e := range []api.Expr{nil, ones(1), ones(40)} {
		notTaken(t, alone(six), alone(e), tens)
		notTaken(t, alone(slices.Concat(six, six)), alone(e), tens)
		notTaken(t, alone(slices.Concat(five, five, ones(60), api.Expr{99})), alone(e), tens)
		notTaken(t, []api.Expr{six[:3], six[3:]}, []api.Expr{e, nil}, tens)
		notTaken(t, []api.Expr{five, {14, 13}, {99}}, []api.Expr{nil, nil, e}, tens)
		notTaken(t, []api.Expr{{1, 1, 1}, {2}, six}, []api.Expr{nil, nil, e}, tens)
	}
	countIs(t, alone(five), alone(nil), 1)
	countIs(t, alone(five), alone(ones(1)), 5)
	countIs(t, alone(slices.Concat(five, five)), alone(nil), 1)
	countIs(t, alone(slices.Concat(five, five)), alone(ones(2)), 5)
	countIs(t, alone(slices.Concat(five, ones(60))), alone(ones(9)), 0)
	countIs(t, []api.Expr{five[:3], five[3:]}, []api.Expr{nil, nil}, 1)
	countIs(t, []api.Expr{five[:3], five[2:], five}, []api.Expr{nil, nil, nil}, 1)
	countIs(t, []api.Expr{five[:3], five[3:]}, []api.Expr{ones(1), ones(1)}, 6)
	countIs(t, alone(slices.Repeat(api.Expr{10}, 100)), alone(nil), 1)
	countIs(t, alone(slices.Repeat(api.Expr{10}, 100)), alone(ones(40)), 0)
	countIs(t, alone(append(slices.Repeat(api.Expr{10}, 100), 11)), alone(ones(40)), 1)
	countIs(t, slices.Repeat(alone(api.Expr{10}), 100), make([]api.Expr, 100), 1)
	all := func(int) bool { return true }
	notTaken(t, alone(list("-1 -2 -3 -4 -5 -6")), alone(nil), all)
	if told, more := taken(t, alone(list("-1 -2 -3 -4 -5")), alone(nil), all); more || allShown(told) != "[-5:, -4:, -3:, -2:, -1:]" {
		t.Errorf("P20.1: five variables below 0: %s, %v", allShown(told), more)
	}
}

// P20.1: a variable that stands as often as the expression has symbols, and once more often.
func TestOftenIn(t *testing.T) {
	for n := range 41 {
		e := ones(n)
		many := slices.Repeat(api.Expr{10}, n)
		want := 1
		if n == 0 {
			want = 0
		}
		countIs(t, alone(append(slices.Clone(many), 11)), alone(e), want+1)
		countIs(t, alone(append(slices.Clone(many), 10, 11)), alone(e), 1)
		countIs(t, alone(slices.Concat(api.Expr{11}, many, api.Expr{10})), alone(e), 1)
		countIs(t, []api.Expr{many, {10, 11}}, []api.Expr{e, nil}, 1-want)
		countIs(t, []api.Expr{{10, 10, 10}, many}, []api.Expr{nil, e}, 1-want)
	}
	countIs(t, alone(list("10 11")), alone(nil), 1)
}

// P20.4: not as many patterns as expressions is refused, whatever they are.
func TestNotAsMany(t *testing.T) {
	for _, c := range []struct{ patterns, l []api.Expr }{
		{lists("10"), nil}, {nil, lists("1")}, {nil, make([]api.Expr, 1)}, {make([]api.Expr, 1), nil}, {lists("10"), lists("1, 1")}, {lists("10, 10"), lists("1")},
		{lists("10, 11, 12"), lists("1, 1")}, {lists("1, 2"), lists("1")}, {make([]api.Expr, 3), make([]api.Expr, 2)}, {lists("10, 11 12 13 14 15 16"), lists("1")}, {nil, alone(ones(41))},
	} {
		notTaken(t, c.patterns, c.l, tens)
	}
}

// P20.1 to P20.4: patterns of any length end soon.
func TestLongPatterns(t *testing.T) {
	begin := time.Now()
	const long = 50000
	x, xy := slices.Repeat(api.Expr{10}, long), slices.Repeat(list("10 11"), long)
	countIs(t, alone(x), alone(nil), 1)
	countIs(t, alone(x), alone(ones(40)), 0)
	countIs(t, alone(xy), alone(nil), 1)
	countIs(t, alone(xy), alone(ones(40)), 0)
	countIs(t, alone(append(xy, 12)), alone(ones(40)), 1)
	countIs(t, alone(slices.Concat(list("13 12"), xy, list("12 14 1"))), alone(ones(40)), 400)
	countIs(t, alone(ones(long)), alone(ones(40)), 0)
	countIs(t, alone(slices.Concat(ones(long), list("10 11 12 13 14"))), alone(ones(40)), 0)
	notTaken(t, alone(slices.Concat(ones(long), list("10 11 12 13 14 15"))), alone(ones(40)), tens)
	var different api.Expr
	for v := range long {
		different = append(different, 10+v)
	}
	notTaken(t, alone(different), alone(nil), tens)
	notTaken(t, slices.Repeat(alone(different), 10), make([]api.Expr, 10), tens)
	none := make([]api.Expr, long)
	countIs(t, none, none, 1)
	countIs(t, slices.Concat(lists("10 11 12 13 14"), none), slices.Concat(alone(ones(40)), none), 135751)
	countIs(t, slices.Concat(lists("10 11 12 13 14"), none, lists("2")), slices.Concat(alone(ones(39)), none, lists("1")), 0)
	countIs(t, slices.Concat(lists("10 11 12 13 14 2, 10"), none), slices.Concat(alone(ones(39)), none, lists("1")), 0)
	if d := time.Since(begin); d > time.Minute {
		t.Errorf("R11: patterns of %d symbols took %v", long, d)
	}
}

// P20.1 to P20.4: where nothing fits, all ways to cut 40 symbols for five variables are gone through in no long time.
func TestNothingFits(t *testing.T) {
	begin := time.Now()
	for _, p := range []string{"10 11 12 13 14 2", "10 11 12 13 14 10 2", "10 11 12 13 14 14 13 12 11 10 2", "10 11 12 13 14 10 11 2", "10 11 10 12 10 13 14 2"} {
		for range 20 {
			countIs(t, alone(list(p)), alone(ones(40)), 0)
		}
	}
	if d := time.Since(begin); d > time.Minute {
		t.Errorf("R11: 100 patterns took %v", d)
	}
}
