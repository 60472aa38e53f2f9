package expr

import (
	"slices"
	"strings"
	"testing"

	"lemma/api"
)

// allLists gives every list of at most so many items, of 1 to kinds, the shorter ones first, each length in rising order.
func allLists(most, kinds int) []api.Expr {
	lists := []api.Expr{nil}
	for from := 0; len(lists[from]) < most; from++ {
		for x := 1; x <= kinds; x++ {
			lists = append(lists, append(slices.Clone(lists[from]), x))
		}
	}
	return lists
}

// P3.1, P3.2: the order of the chapter is that in which allLists makes its lists.
func TestOrderOfAllShortLists(t *testing.T) {
	lists := allLists(4, 3)
	for i, a := range lists {
		for j, b := range lists {
			want := 0
			if i < j {
				want = -1
			} else if i > j {
				want = 1
			}
			if n := Compare(a, b); n != want || Equal(a, b) != (want == 0) {
				t.Errorf("Compare(%v, %v) = %d, Equal %v", a, b, n, Equal(a, b))
			}
		}
	}
}

// P3.3: a second reading: every number from the least on is asked for, whether it stands in the list.
func TestVarsOfAllShortLists(t *testing.T) {
	for set := range 16 {
		variable := func(n int) bool { return set>>n&1 == 1 }
		for _, e := range allLists(5, 3) {
			var want []int
			for n := range 4 {
				if variable(n) && slices.Contains(e, n) {
					want = append(want, n)
				}
			}
			if l := Vars(e, variable); !slices.Equal(l, want) {
				t.Fatalf("P3.3: Vars(%v), variables %b: %v, want %v", e, set, l, want)
			}
		}
	}
}

// P3.4: a second reading: parts are laid as texts.
func TestJoinOfAllShortLists(t *testing.T) {
	text := func(e api.Expr) string {
		var s strings.Builder
		for _, n := range e {
			s.WriteByte(byte('0' + n))
		}
		return s.String()
	}
	lists := allLists(3, 2)
	for _, a := range lists {
		for _, b := range lists {
			for _, c := range lists {
				if e, code := Join(a, b, c); code != api.OK || text(e) != text(a)+text(b)+text(c) {
					t.Fatalf("P3.4: Join(%v, %v, %v) = %v, %d", a, b, c, e, code)
				}
			}
		}
	}
}

// checkPlaces holds Places against a second reading: each place is looked at by itself.
func checkPlaces(t *testing.T, e, part api.Expr) {
	t.Helper()
	var want []int
	for i := 0; i+len(part) <= len(e); i++ {
		if slices.Equal(e[i:i+len(part)], part) {
			want = append(want, i)
		}
	}
	if l := Places(e, part); !slices.Equal(l, want) {
		t.Fatalf("P3.5: Places(%v, %v) = %v, want %v", e, part, l, want)
	}
}

// P3.5: all short parts in all short lists.
func TestPlacesInAllShortLists(t *testing.T) {
	parts := allLists(7, 2)
	for _, e := range allLists(10, 2) {
		for _, part := range parts {
			checkPlaces(t, e, part)
		}
	}
	parts = allLists(4, 3)
	for _, e := range allLists(6, 3) {
		for _, part := range parts {
			checkPlaces(t, e, part)
		}
	}
}

// P3.5: longer lists, made by a fixed rule, and pieces of them.
func TestPlacesInLongerLists(t *testing.T) {
	seed := uint32(1)
	next := func(n int) int {
		seed = seed*1664525 + 1013904223
		return int(seed>>8) % n
	}
	for range 3000 {
		e := make(api.Expr, 1+next(120))
		period := 1 + next(9)
		for i := range e {
			if i < period || next(20) == 0 {
				e[i] = next(2)
			} else {
				e[i] = e[i-period]
			}
		}
		from := next(len(e))
		to := from + next(len(e)-from+1)
		part := slices.Clone(e[from:to])
		checkPlaces(t, e, part)
		if len(part) > 0 {
			part[next(len(part))] ^= 1
			checkPlaces(t, e, part)
		}
	}
}
