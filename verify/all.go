package verify

import (
	"cmp"
	"slices"
	"sync"

	"lemma/api"
	"lemma/base"
)

// judged is the verdict on a theorem, with its number: they come in whatever order the workers end.
type judged struct {
	n       int
	verdict api.Verdict
}

// All judges all theorems, in order, by so many workers.
func All(b *base.Base, workers int) []api.Verdict {
	// Both channels have room for all that is ever sent, so that no send waits: the workers can be joined ahead of looking at what they sent.
	numbers := make(chan int, b.Count())
	verdicts := make(chan judged, b.Count())
	for n := range b.Count() {
		numbers <- n
	}
	close(numbers)
	var hands sync.WaitGroup
	for range handsOf(workers) {
		hands.Add(1)
		go func() {
			defer hands.Done()
			work(b, numbers, verdicts)
		}()
	}
	hands.Wait()
	close(verdicts)
	return inOrder(verdicts)
}

// handsOf tells how many goroutines so many workers are.
func handsOf(workers int) int { return min(max(workers, 1), api.MaxWorkers) }

// work judges the theorems whose numbers it receives, till no number is left. Axioms' numbers come too, and are passed over.
func work(b *base.Base, numbers <-chan int, verdicts chan<- judged) {
	for n := range numbers {
		if v, code := Theorem(b, n); code == api.OK {
			verdicts <- judged{n, v}
		}
	}
}

// inOrder gives the verdicts in the order of the theorems' numbers, in whatever order they were sent.
func inOrder(verdicts <-chan judged) []api.Verdict {
	var came []judged
	for j := range verdicts {
		came = append(came, j)
	}
	slices.SortFunc(came, func(a, b judged) int { return cmp.Compare(a.n, b.n) })
	told := make([]api.Verdict, 0, len(came))
	for _, j := range came {
		told = append(told, j.verdict)
	}
	return told
}
