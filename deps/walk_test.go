package deps

import (
	"iter"
	"slices"
	"testing"

	"lemma/base"
)

// firstOf takes so many numbers of an iterator and breaks off behind the last of them.
func firstOf(walk iter.Seq[int], many int) []int {
	var taken []int
	for k := range walk {
		taken = append(taken, k)
		if len(taken) == many {
			break
		}
	}
	return taken
}

// walks gives bases with all sorts of theorems, and what Walk tells of each of their numbers, and of numbers that are none.
func walks(t *testing.T) map[*base.Base]map[int][]int {
	t.Helper()
	r := rule(172)
	texts := []string{chapter, logic, chained(40), bareTheorem("( g j d ) CZDFE")}
	for range 10 {
		texts = append(texts, r.theory(25, 8).text())
	}
	all := map[*base.Base]map[int][]int{}
	for _, text := range texts {
		b := loaded(t, text)
		all[b] = map[int][]int{}
		for n := -1; n <= b.Count(); n++ {
			all[b][n] = slices.Collect(Walk(b, n))
		}
	}
	return all
}

// P17.3: broken off at every place it yields nothing more, and gone through again it tells the same from the beginning.
func TestBreakOff(t *testing.T) {
	for b, told := range walks(t) {
		for n, want := range told {
			walk := Walk(b, n)
			for many := 1; many <= len(want); many++ {
				if got := firstOf(walk, many); !slices.Equal(got, want[:many]) {
					t.Fatalf("P17.3: the first %d of Walk(%d): %v, want %v", many, n, got, want[:many])
				}
				yielded := 0
				walk(func(int) bool {
					yielded++
					return yielded < many
				})
				if yielded != many {
					t.Fatalf("P17.3: Walk(%d), broken off at %d numbers, yielded %d", n, many, yielded)
				}
			}
			if got := slices.Collect(walk); !slices.Equal(got, want) {
				t.Fatalf("P17.3: Walk(%d), gone through again: %v, want %v", n, got, want)
			}
		}
	}
}

// P17.3: iterators that are kept while others, or they themselves, are gone through tell the same.
func TestKept(t *testing.T) {
	for b, told := range walks(t) {
		kept := map[int]iter.Seq[int]{}
		for n := range told {
			kept[n] = Walk(b, n)
		}
		for n, want := range told {
			if got := slices.Collect(kept[n]); !slices.Equal(got, want) {
				t.Fatalf("P17.3: Walk(%d), kept: %v, want %v", n, got, want)
			}
		}
		var outer []int
		n := b.Count() - 1
		for k := range kept[n] {
			outer = append(outer, k)
			if got := slices.Collect(kept[n]); !slices.Equal(got, told[n]) {
				t.Fatalf("P17.3: Walk(%d), gone through within itself: %v, want %v", n, got, told[n])
			}
			if got := slices.Collect(kept[k]); !slices.Equal(got, told[k]) {
				t.Fatalf("P17.3: Walk(%d), gone through within another: %v, want %v", k, got, told[k])
			}
		}
		if !slices.Equal(outer, told[n]) {
			t.Fatalf("P17.3: Walk(%d), with others gone through within it: %v, want %v", n, outer, told[n])
		}
	}
}

// P17.3: one iterator gone through in turns, step by step, twice at a time.
func TestInTurns(t *testing.T) {
	b := loaded(t, chained(40))
	n := b.Count() - 1
	walk := Walk(b, n)
	want := slices.Collect(walk)
	ahead, stopAhead := iter.Pull(walk)
	defer stopAhead()
	behind, stopBehind := iter.Pull(walk)
	defer stopBehind()
	ahead()
	for i := range want {
		if k, more := behind(); k != want[i] || !more {
			t.Errorf("P17.3: the number %d of one: %d, %t, want %d", i, k, more, want[i])
		}
		if k, more := ahead(); more != (i+1 < len(want)) || more && k != want[i+1] {
			t.Errorf("P17.3: the number %d of the other: %d, %t", i+1, k, more)
		}
	}
}

// R13: one iterator gone through by many at a time.
func TestByMany(t *testing.T) {
	b := loaded(t, chained(60))
	walk := Walk(b, b.Count()-1)
	want := slices.Collect(walk)
	answers := make(chan []int)
	for range 8 {
		go func() { answers <- slices.Collect(walk) }()
	}
	for range 8 {
		if got := <-answers; !slices.Equal(got, want) {
			t.Errorf("R13: %v, want %v", got, want)
		}
	}
}

// P17.3: a caller that panics is not caught, and leaves the iterator as it was.
func TestCallerPanics(t *testing.T) {
	walk := Walk(loaded(t, chapter), 3)
	func() {
		defer func() {
			if recover() != "mine" {
				t.Error("a caller's panic did not come through")
			}
		}()
		for range walk {
			panic("mine")
		}
	}()
	if got := slices.Collect(walk); !slices.Equal(got, []int{2, 0}) {
		t.Errorf("P17.3: behind a caller's panic: %v", got)
	}
}
