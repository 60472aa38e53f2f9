package verify

import (
	"math"
	"runtime"
	"slices"
	"testing"
	"time"

	"lemma/api"
	"lemma/base"
)

// eachTheorem gives the verdicts one by one.
func eachTheorem(b *base.Base) []api.Verdict {
	var all []api.Verdict
	for n := range b.Count() {
		if v, code := Theorem(b, n); code == api.OK {
			all = append(all, v)
		}
	}
	return all
}

// manyWorkers are numbers of workers: below 1, 1, some, MaxWorkers, above it.
var manyWorkers = []int{math.MinInt, -5, -1, 0, 1, 2, 3, 7, api.MaxWorkers - 1, api.MaxWorkers, api.MaxWorkers + 1, 1000, 1 << 40, math.MaxInt}

// P14.5: All is Theorem for each theorem, whatever workers is: more or fewer of them than theorems.
func TestAll(t *testing.T) {
	for _, text := range []string{chapter, many, small, growing, mixed, writeText(5, 200)} {
		b := loaded(t, text)
		want := eachTheorem(b)
		if len(want) == 0 {
			t.Fatal("no theorem")
		}
		for _, workers := range manyWorkers {
			if l := All(b, workers); !slices.Equal(l, want) {
				t.Errorf("P14.5: All by %d workers: %v, want %v", workers, l, want)
			}
		}
	}
}

// P14.5: a base without a theorem: with nothing at all, with hypotheses, with axioms.
func TestAllOfNone(t *testing.T) {
	for _, text := range []string{"", "$c a $. $v x $. fx $f a x $.", "$c a $. x $a a $. y $a a $. ${ h $e a $. z $a a $. $}"} {
		b := loaded(t, text)
		for _, workers := range manyWorkers {
			if l := All(b, workers); len(l) != 0 {
				t.Errorf("P14.5: All of %q by %d workers: %v", text, workers, l)
			}
		}
	}
}

// P14.5: so many goroutines as workers are told, from 1 to MaxWorkers.
func TestHands(t *testing.T) {
	for _, workers := range manyWorkers {
		want := workers
		if workers < 1 {
			want = 1
		}
		if workers > 16 {
			want = 16
		}
		if got := handsOf(workers); got != want {
			t.Errorf("P14.5: %d workers are %d goroutines, want %d", workers, got, want)
		}
	}
}

// R13: many times, on one processor and on many, many calls at a time on one base: one answer.
func TestEverySchedule(t *testing.T) {
	before := runtime.GOMAXPROCS(0)
	defer runtime.GOMAXPROCS(before)
	b := loaded(t, writeText(9, 300))
	want := eachTheorem(b)
	for _, processors := range []int{1, 2, 8} {
		runtime.GOMAXPROCS(processors)
		answers := make(chan []api.Verdict)
		for i := range 30 {
			go func() { answers <- All(b, 1+i%api.MaxWorkers) }()
		}
		for range 30 {
			if l := <-answers; !slices.Equal(l, want) {
				t.Errorf("R13: on %d processors: %v, want %v", processors, l, want)
			}
		}
	}
}

// R13: in whatever order numbers are taken, and verdicts come, one answer: all orders of a text's assertions, taken by one worker and parted between two.
func TestEveryOrder(t *testing.T) {
	b := loaded(t, "$c w $. g $a w $. t1 $p w $= g $. t2 $p w $= t1 t1 $. k $a w $. t3 $p w $= ? $. t4 $p w $= t2 $.")
	want := eachTheorem(b)
	if len(want) != 4 {
		t.Fatalf("%v", want)
	}
	numbers := []int{0, 1, 2, 3, 4, 5}
	tried := 0
	permuted(numbers, 0, func() {
		tried++
		for cut := range numbers {
			verdicts := make(chan judged, len(numbers))
			work(b, filled(numbers[cut:]), verdicts)
			work(b, filled(numbers[:cut]), verdicts)
			close(verdicts)
			if l := inOrder(verdicts); !slices.Equal(l, want) {
				t.Fatalf("R13: numbers in the order %v, cut at %d: %v, want %v", numbers, cut, l, want)
			}
		}
	})
	if tried != 720 {
		t.Errorf("%d orders", tried)
	}
}

// filled gives a closed channel with these numbers.
func filled(numbers []int) <-chan int {
	all := make(chan int, len(numbers))
	for _, n := range numbers {
		all <- n
	}
	close(all)
	return all
}

// permuted does something for every order of a list, of which so many stand.
func permuted(l []int, stand int, do func()) {
	if stand == len(l) {
		do()
	}
	for i := stand; i < len(l); i++ {
		l[stand], l[i] = l[i], l[stand]
		permuted(l, stand+1, do)
		l[stand], l[i] = l[i], l[stand]
	}
}

// All goroutines are joined: soon behind a call none is left.
func TestJoined(t *testing.T) {
	b := loaded(t, writeText(3, 100))
	before := runtime.NumGoroutine()
	for range 50 {
		All(b, api.MaxWorkers)
	}
	for range 1000 {
		if runtime.NumGoroutine() <= before {
			return
		}
		time.Sleep(time.Millisecond)
	}
	t.Errorf("%d goroutines ahead of the calls, %d behind them", before, runtime.NumGoroutine())
}

// A text as long as may be: all its theorems are judged.
func TestLongText(t *testing.T) {
	text := "$c w $. g $a w $. ${ e $e w $. f $e w $. j $a w $. $}\n"
	for n := 0; len(text) < api.MaxText-200; n++ {
		label := proofLetters(n)
		text += label + " $p w $= ( g j ) AZ" + "CBCBCBCBCBCBCBCBCBCBCBCBCBCBCBCBCBCBCBCBCBCBCBCBCBCB" + " $.\n"
	}
	b := loaded(t, text)
	l := All(b, 5)
	if len(l) != b.Count()-2 || len(l) < 500 {
		t.Fatalf("P14.5: %d verdicts on %d theorems", len(l), b.Count()-2)
	}
	for n, v := range l {
		if v != (api.Verdict{Label: proofLetters(n), Count: 27, Peak: 2}) {
			t.Errorf("P14.5: the theorem %d: %v", n, v)
		}
	}
}
