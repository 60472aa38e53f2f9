package match

import (
	"slices"
	"strconv"
	"strings"
	"testing"

	"lemma/api"
	"lemma/subst"
)

// tens are the variables of most tests: 10 and above.
func tens(n int) bool { return n >= 10 }

// list reads numbers with blanks between: "1 10".
func list(text string) api.Expr {
	var e api.Expr
	for _, w := range strings.Fields(text) {
		n, err := strconv.Atoi(w)
		if err != nil {
			panic(err)
		}
		e = append(e, n)
	}
	return e
}

// lists reads lists with ", " between; of "": none.
func lists(text string) []api.Expr {
	var l []api.Expr
	if text == "" {
		return nil
	}
	for _, part := range strings.Split(text, ",") {
		l = append(l, list(part))
	}
	return l
}

// shown writes a match: "10: 2 3, 11:".
func shown(m []api.Bind) string {
	var parts []string
	for _, b := range m {
		text := strconv.Itoa(b.Var) + ":"
		for _, n := range b.Expr {
			text += " " + strconv.Itoa(n)
		}
		parts = append(parts, text)
	}
	return strings.Join(parts, ", ")
}

// allShown writes matches, each in brackets.
func allShown(l [][]api.Bind) string {
	text := ""
	for _, m := range l {
		text += "[" + shown(m) + "]"
	}
	return text
}

// taken asks all calls, and tells what they agree upon: the matches that are told, and whether there are more.
func taken(t *testing.T, patterns, l []api.Expr, vars func(int) bool) ([][]api.Bind, bool) {
	t.Helper()
	told, more, code := Lists(patterns, l, vars)
	if code != api.OK {
		t.Fatalf("P20.4: Lists(%v, %v) answers %d", patterns, l, code)
	}
	if more && len(told) != 256 || len(told) > 256 {
		t.Fatalf("P20.4: Lists(%v, %v) tells %d, %v", patterns, l, len(told), more)
	}
	if len(patterns) == 1 {
		aloneHolds(t, patterns[0], l[0], vars, told, more)
	}
	fitting(t, patterns, l, told)
	return told, more
}

// aloneHolds compares the calls that take one pattern with what Lists tells of it.
func aloneHolds(t *testing.T, p, e api.Expr, vars func(int) bool, told [][]api.Bind, more bool) {
	t.Helper()
	all, allMore, code := All(p, e, vars)
	if code != api.OK || allMore != more || allShown(all) != allShown(told) {
		t.Fatalf("P20.6: All(%v, %v) = %s, %v, %d, Lists: %s, %v", p, e, allShown(all), allMore, code, allShown(told), more)
	}
	first, ok := First(p, e, vars)
	if ok != (len(told) > 0) || ok && shown(first) != shown(told[0]) || !ok && first != nil {
		t.Fatalf("P20.2: First(%v, %v) = %s, %v, All: %s", p, e, shown(first), ok, allShown(told))
	}
	want := len(told)
	if more {
		want = 257
	}
	if n := Count(p, e, vars); n != want {
		t.Fatalf("P20.3: Count(%v, %v) = %d, want %d", p, e, n, want)
	}
}

// fitting puts each match in as a substitution.
func fitting(t *testing.T, patterns, l []api.Expr, told [][]api.Bind) {
	t.Helper()
	seen := map[string]int{}
	for _, m := range told {
		s, code := subst.New(m)
		if code != api.OK || shown(s.Binds()) != shown(m) {
			t.Fatalf("%v, %v: the binds %s are not rising, or not each once", patterns, l, shown(m))
		}
		for i, p := range patterns {
			if made, code := s.Apply(p); code != api.OK || !slices.Equal(made, l[i]) {
				t.Fatalf("P20.5: %s makes %v of %v, want %v", shown(m), made, p, l[i])
			}
		}
		seen[shown(m)]++
	}
	if len(seen) != len(told) {
		t.Fatalf("P20.5: of %v, %v: %d matches, %d different", patterns, l, len(told), len(seen))
	}
}

// matchIs asks all calls for a pattern, or for several with ", " between, and compares what all matches are.
func matchIs(t *testing.T, patterns, l, want string) {
	t.Helper()
	ps, es := lists(patterns), lists(l)
	if !strings.Contains(patterns, ",") && !strings.Contains(l, ",") {
		ps, es = []api.Expr{list(patterns)}, []api.Expr{list(l)}
	}
	if told, more := taken(t, ps, es, tens); more || allShown(told) != want {
		t.Errorf("P20.1, P20.4: [%s], [%s]: %s, %v, want %s", patterns, l, allShown(told), more, want)
	}
}

// notTaken asks all calls for what is not taken.
func notTaken(t *testing.T, patterns, l []api.Expr, vars func(int) bool) {
	t.Helper()
	if told, more, code := Lists(patterns, l, vars); code != api.ErrPattern || told != nil || more {
		t.Errorf("P20.4: Lists(%v, %v): %s, %v, %d", patterns, l, allShown(told), more, code)
	}
	if len(patterns) != 1 || len(l) != 1 {
		return
	}
	if told, more, code := All(patterns[0], l[0], vars); code != api.ErrPattern || told != nil || more {
		t.Errorf("P20.1: All(%v, %v): %s, %v, %d", patterns[0], l[0], allShown(told), more, code)
	}
	if m, ok := First(patterns[0], l[0], vars); m != nil || ok {
		t.Errorf("P20.2: First(%v, %v): %s, %v", patterns[0], l[0], shown(m), ok)
	}
	if n := Count(patterns[0], l[0], vars); n != 0 {
		t.Errorf("P20.3: Count(%v, %v): %d", patterns[0], l[0], n)
	}
}

// P20.1 to P20.4: the chapter's examples.
func TestExamples(t *testing.T) {
	matchIs(t, "1 10", "1 2 3", "[10: 2 3]")
	matchIs(t, "10 11", "1 2", "[10:, 11: 1 2][10: 1, 11: 2][10: 1 2, 11:]")
	matchIs(t, "11 10", "1", "[10: 1, 11:][10:, 11: 1]")
	matchIs(t, "10 1 10", "2 1 2", "[10: 2]")
	matchIs(t, "10 1 10", "1", "[10:]")
	matchIs(t, "1", "1", "[]")
	matchIs(t, "1", "2", "")
	matchIs(t, "", "", "[]")
	matchIs(t, "10 1, 10", "2 1, 2", "[10: 2]")
	matchIs(t, "10, 10", "1, 2", "")
	notTaken(t, lists("10"), lists("1, 2"), tens)
}

// P20.1 to P20.4: the chapter's hard places.
func TestHardPlaces(t *testing.T) {
	matchIs(t, "10", "", "[10:]")
	matchIs(t, "10 1", "1 10 1", "[10: 1 10]")
	matchIs(t, "10 10", "1", "")
	matchIs(t, "10 10", "1 1 1", "")
	matchIs(t, "10 10", "1 1 1 1 1 1 1", "")
	matchIs(t, "10 10", "1 1", "[10: 1]")
	matchIs(t, "10 10", "1 2", "")
	matchIs(t, "10 10", "", "[10:]")
	all := func(int) bool { return true }
	told, more, code := All(api.Expr{7, 3}, api.Expr{1}, all)
	if code != api.OK || more || allShown(told) != "[3: 1, 7:][3:, 7: 1]" {
		t.Errorf("P20.1: [7 3], [1]: %s, %v, %d", allShown(told), more, code)
	}
	if m, ok := First(api.Expr{7, 3}, api.Expr{1}, all); !ok || shown(m) != "3: 1, 7:" {
		t.Errorf("P20.2: [7 3], [1]: %s, %v", shown(m), ok)
	}
}

// P20.1: an expression's symbols are fixed, also those that vars calls variables, and the pattern's own.
func TestFixed(t *testing.T) {
	matchIs(t, "10", "10", "[10: 10]")
	matchIs(t, "10", "11", "[10: 11]")
	matchIs(t, "10 10", "10 10", "[10: 10]")
	matchIs(t, "10 10", "10 11", "")
	matchIs(t, "10 11", "11 10", "[10:, 11: 11 10][10: 11, 11: 10][10: 11 10, 11:]")
	matchIs(t, "1", "10", "")
	matchIs(t, "1", "", "")
	matchIs(t, "1 2", "1", "")
	matchIs(t, "1", "1 1", "")
	matchIs(t, "", "10", "")
	matchIs(t, "10, 11", "11, 10", "[10: 11, 11: 10]")
	matchIs(t, "10 11 10", "11 10 11", "[10:, 11: 11 10 11][10: 11, 11: 10]")
}

// P20.1: the first place decides, whatever the numbers, then the next.
func TestOrder(t *testing.T) {
	matchIs(t, "12 11 10", "1", "[10: 1, 11:, 12:][10:, 11: 1, 12:][10:, 11:, 12: 1]")
	matchIs(t, "11 11 12 10", "1 1", "[10: 1 1, 11:, 12:][10: 1, 11:, 12: 1][10:, 11:, 12: 1 1][10:, 11: 1, 12:]")
	matchIs(t, "10 11 10 12", "1 1", "[10:, 11:, 12: 1 1][10:, 11: 1, 12: 1][10:, 11: 1 1, 12:][10: 1, 11:, 12:]")
	matchIs(t, "11 1 10", "1 1 1", "[10: 1 1, 11:][10: 1, 11: 1][10:, 11: 1 1]")
	// In one pattern the last variable has its place first, in another the first.
	matchIs(t, "12 10, 11 12 10", "1, 2 1", "[10: 1, 11: 2, 12:][10:, 11: 2, 12: 1]")
	matchIs(t, ", 11 10, 10", ", 1 2, 2", "[10: 2, 11: 1]")
	matchIs(t, "11 10, 12 13", "1, 2", "[10: 1, 11:, 12:, 13: 2][10: 1, 11:, 12: 2, 13:][10:, 11: 1, 12:, 13: 2][10:, 11: 1, 12: 2, 13:]")
}

// P20.4: one choice of strings for all patterns; no patterns; constants alone.
func TestLists(t *testing.T) {
	matchIs(t, "10 11, 11", "1 2, 2", "[10: 1, 11: 2]")
	matchIs(t, "10 11, 11 10", "1 2, 2 1", "[10: 1, 11: 2]")
	matchIs(t, "10 11, 11 10", "1 1, 1 1", "[10:, 11: 1 1][10: 1, 11: 1][10: 1 1, 11:]")
	matchIs(t, "10 11, 10 10 11", "1 1 1, 1 1 1 1", "[10: 1, 11: 1 1]")
	matchIs(t, "10 11, 10 1 11", "1 2, 1 2", "")
	matchIs(t, "10 11, 10 1 11", "2 2, 2 1 2", "[10: 2, 11: 2]")
	matchIs(t, "10, 10 10", "1, 1 1 1", "")
	matchIs(t, "10 11, 10 10", "1 2, ", "[10:, 11: 1 2]")
	matchIs(t, "1, 2", "1, 2", "[]")
	matchIs(t, "1, 2", "1, 1", "")
	matchIs(t, "1, 2", "2, 2", "")
	matchIs(t, ", ", ", ", "[]")
	matchIs(t, ", 1", ", ", "")
	matchIs(t, ", ", ", 1", "")
	matchIs(t, ", ", "1, ", "")
	if told, more := taken(t, nil, nil, tens); more || allShown(told) != "[]" {
		t.Errorf("P20.4: no patterns: %s, %v", allShown(told), more)
	}
	if told, more := taken(t, []api.Expr{}, []api.Expr{}, tens); more || allShown(told) != "[]" {
		t.Errorf("P20.4: no patterns: %s, %v", allShown(told), more)
	}
}

// P20.1 to P20.4: symbols are any numbers, and any of them may be a variable.
func TestOddNumbers(t *testing.T) {
	const least, most = -1 << 63, 1<<63 - 1
	odd := func(n int) bool { return n == least || n == most || n == -1 }
	told, more := taken(t, []api.Expr{{most, least, 0}}, []api.Expr{{least, 0}}, odd)
	if want := "[-9223372036854775808: -9223372036854775808, 9223372036854775807:][-9223372036854775808:, 9223372036854775807: -9223372036854775808]"; more || allShown(told) != want {
		t.Errorf("P20.1: %s, want %s", allShown(told), want)
	}
	told, _ = taken(t, []api.Expr{{-1, -2, most}}, []api.Expr{{-1, -2, -2, -1}}, odd)
	if want := "[-1: -1, 9223372036854775807: -2 -1][-1: -1 -2, 9223372036854775807: -1]"; allShown(told) != want {
		t.Errorf("P20.1: %s, want %s", allShown(told), want)
	}
	told, _ = taken(t, []api.Expr{{most, least}}, []api.Expr{{most, least}}, func(int) bool { return false })
	if allShown(told) != "[]" {
		t.Errorf("P20.1: a pattern that is the expression, without a variable: %s", allShown(told))
	}
}
