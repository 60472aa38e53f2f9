package match

import (
	"cmp"
	"slices"
	"testing"

	"lemma/api"
	"lemma/expr"
	"lemma/subst"
)

// order gives the patterns' variables in the order in which they first stand there.
func order(patterns []api.Expr, vars func(int) bool) []int {
	var l []int
	for _, x := range slices.Concat(patterns...) {
		if vars(x) && !slices.Contains(l, x) {
			l = append(l, x)
		}
	}
	return l
}

// cuts gives all ways to cut an expression into so many parts.
func cuts(e api.Expr, parts int) [][]api.Expr {
	if parts == 0 {
		if len(e) > 0 {
			return nil
		}
		return [][]api.Expr{nil}
	}
	var all [][]api.Expr
	for n := range len(e) + 1 {
		for _, rest := range cuts(e[n:], parts-1) {
			all = append(all, append([]api.Expr{e[:n]}, rest...))
		}
	}
	return all
}

// agree reads one way to cut: what it makes stand for each variable, if each symbol of the pattern may be what it is cut to.
func agree(p api.Expr, parts []api.Expr, vars func(int) bool, stands map[int]api.Expr) bool {
	for i, x := range p {
		if !vars(x) {
			if !slices.Equal(parts[i], api.Expr{x}) {
				return false
			}
			continue
		}
		if put, known := stands[x]; known && !slices.Equal(put, parts[i]) {
			return false
		}
		stands[x] = parts[i]
	}
	return true
}

// cutAll finds the matches by all ways to cut each expression, in no order.
func cutAll(patterns, l []api.Expr, vars func(int) bool) []map[int]api.Expr {
	found := []map[int]api.Expr{{}}
	for i, p := range patterns {
		var next []map[int]api.Expr
		for _, parts := range cuts(l[i], len(p)) {
			for _, before := range found {
				stands := map[int]api.Expr{}
				for v, e := range before {
					stands[v] = e
				}
				if agree(p, parts, vars, stands) {
					next = append(next, stands)
				}
			}
		}
		found = next
	}
	return found
}

// inOrder puts matches in the chapter's order, and tells each as binds.
func inOrder(found []map[int]api.Expr, order []int) [][]api.Bind {
	slices.SortFunc(found, func(a, b map[int]api.Expr) int {
		for _, v := range order {
			if c := cmp.Compare(len(a[v]), len(b[v])); c != 0 {
				return c
			}
		}
		return 0
	})
	var told [][]api.Bind
	rising := slices.Sorted(slices.Values(order))
	for _, stands := range found {
		var m []api.Bind
		for _, v := range rising {
			m = append(m, api.Bind{Var: v, Expr: stands[v]})
		}
		told = append(told, m)
	}
	return told
}

// cutsHold compares all calls with the matches that the cuts give, and answers how many these are.
func cutsHold(t *testing.T, patterns, l []api.Expr, vars func(int) bool) int {
	t.Helper()
	want := inOrder(cutAll(patterns, l, vars), order(patterns, vars))
	told, more := taken(t, patterns, l, vars)
	if more || allShown(told) != allShown(want) {
		t.Fatalf("P20.1, P20.4: %v, %v: %s, %v, want %s", patterns, l, allShown(told), more, allShown(want))
	}
	return len(want)
}

// allLists gives every list of at most so many of these symbols.
func allLists(most int, of ...int) []api.Expr {
	all := []api.Expr{nil}
	for from := 0; len(all[from]) < most; from++ {
		for _, x := range of {
			all = append(all, append(slices.Clone(all[from]), x))
		}
	}
	return all
}

// P20.1 to P20.3, P20.5, P20.6: all short patterns and expressions, against all ways to cut.
func TestAllShort(t *testing.T) {
	most := 0
	for _, p := range allLists(4, 1, 2, 11, 10) {
		for _, e := range allLists(4, 1, 2, 10) {
			most = max(most, cutsHold(t, []api.Expr{p}, []api.Expr{e}, tens))
		}
	}
	for _, p := range allLists(4, -5, 3, 0, 1) {
		for _, e := range allLists(4, 0, 1) {
			most = max(most, cutsHold(t, []api.Expr{p}, []api.Expr{e}, func(n int) bool { return n != 1 }))
		}
	}
	if most < 15 {
		t.Errorf("at most %d matches", most)
	}
}

// P20.4, P20.5: two and three short patterns with their expressions.
func TestAllShortLists(t *testing.T) {
	for _, p := range allLists(2, 1, 11, 10) {
		for _, q := range allLists(3, 1, 11, 10) {
			for _, e := range allLists(2, 1, 2) {
				for _, f := range allLists(3, 1, 2) {
					cutsHold(t, []api.Expr{p, q}, []api.Expr{e, f}, tens)
				}
			}
		}
	}
	for _, p := range allLists(2, 12, 10) {
		for _, q := range allLists(2, 11, 10) {
			for _, r := range allLists(2, 12, 11) {
				for _, e := range allLists(2, 1, 2) {
					cutsHold(t, []api.Expr{p, q, r}, []api.Expr{e, {1, 2}, e}, tens)
					cutsHold(t, []api.Expr{p, q, r}, []api.Expr{{1, 1}, e, {1}}, tens)
				}
			}
		}
	}
}

// allSubsts gives every substitution of just these variables with strings of these.
func allSubsts(vars []int, strings []api.Expr) [][]api.Bind {
	all := [][]api.Bind{nil}
	for _, v := range vars {
		var next [][]api.Bind
		for _, binds := range all {
			for _, e := range strings {
				next = append(next, append(slices.Clone(binds), api.Bind{Var: v, Expr: e}))
			}
		}
		all = next
	}
	return all
}

// P20.5: whatever substitution of a pattern's variables makes an expression of it is told, and nothing else.
func TestAllSubsts(t *testing.T) {
	expressions := allLists(3, 1, 2, 10)
	for _, p := range allLists(4, 1, 11, 10) {
		makes := map[string]map[string]int{}
		for _, binds := range allSubsts(expr.Vars(p, tens), expressions) {
			s, _ := subst.New(binds)
			made, _ := s.Apply(p)
			key := shown([]api.Bind{{Expr: made}})
			if makes[key] == nil {
				makes[key] = map[string]int{}
			}
			makes[key][shown(binds)]++
		}
		for _, e := range expressions {
			told, _ := taken(t, []api.Expr{p}, []api.Expr{e}, tens)
			want := makes[shown([]api.Bind{{Expr: e}})]
			for _, m := range told {
				if want[shown(m)] != 1 {
					t.Fatalf("P20.5: %v, %v: %s is told", p, e, shown(m))
				}
			}
			if len(told) != len(want) {
				t.Fatalf("P20.5: %v, %v: %d told, want %d", p, e, len(told), len(want))
			}
		}
	}
}
