package unfold

import (
	"slices"
	"strings"
	"testing"

	"lemma/api"
)

// doubled is a derivation of so many nodes, each but the first with the one ahead of it twice.
func doubled(many int) []api.Node {
	l := []api.Node{{Label: "g"}}
	for n := range many - 1 {
		l = append(l, api.Node{Label: "d", Kids: []int{n, n}})
	}
	return l
}

// firstOf takes so many labels of an iterator and breaks off behind the last of them.
func firstOf(l []api.Node, many int) []string {
	var taken []string
	for label := range labels(l) {
		taken = append(taken, label)
		if len(taken) == many {
			break
		}
	}
	return taken
}

// The way of the layer: labels come one after the other, parts first, those of a shared node each time.
func TestLabels(t *testing.T) {
	l := []api.Node{{Label: "a"}, {Label: "b", Kids: []int{0}}, {Label: "out"}, {Label: "c", Kids: []int{1, 0, 1}}}
	if got := strings.Join(slices.Collect(labels(l)), " "); got != "a b a a b c" {
		t.Errorf("the labels are %q", got)
	}
	if got := slices.Collect(labels(l[:1])); !slices.Equal(got, []string{"a"}) {
		t.Errorf("the labels of a leaf are %q", got)
	}
	for _, none := range [][]api.Node{nil, {}} {
		if got := slices.Collect(labels(none)); len(got) != 0 {
			t.Errorf("the labels of no node are %q", got)
		}
	}
	// Gone over twice, it begins anew.
	all := labels(l)
	if first, second := slices.Collect(all), slices.Collect(all); !slices.Equal(first, second) {
		t.Errorf("the labels are %q, then %q", first, second)
	}
}

// It stops when its caller breaks off, at every label, and yields nothing more.
func TestBreakOff(t *testing.T) {
	l := doubled(6)
	whole := slices.Collect(labels(l))
	for many := 1; many <= len(whole); many++ {
		if got := firstOf(l, many); !slices.Equal(got, whole[:many]) {
			t.Errorf("the first %d labels are %q", many, got)
		}
		yielded := 0
		labels(l)(func(string) bool {
			yielded++
			return yielded < many
		})
		if yielded != many {
			t.Errorf("broken off at %d labels it yielded %d", many, yielded)
		}
	}
}

// Nothing is made ahead: of 2^1000 labels the first are there at once.
func TestNothingAhead(t *testing.T) {
	want := slices.Collect(labels(doubled(10)))
	if got := firstOf(doubled(1000), len(want)); !slices.Equal(got, want) {
		t.Errorf("the first labels are %.200q", got)
	}
}
