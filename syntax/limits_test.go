package syntax

import (
	"fmt"
	"slices"
	"strings"
	"testing"
	"time"

	"lemma/api"
	"lemma/base"
)

// longIs holds all three calls to refuse an expression for its length.
func longIs(t *testing.T, b *base.Base, c api.Context, e api.Expr) {
	t.Helper()
	labels, no := Prove(b, c, e)
	size, noSize := Least(b, c, e)
	ways, noWays := Ways(b, c, e)
	if labels != nil || size != 0 || ways != 0 || no != api.ErrLong || noSize != api.ErrLong || noWays != api.ErrLong {
		t.Errorf("21.1 to 21.3: %d symbols: %v, %d, %d, %d, %d, %d", len(e), labels, no, size, noSize, ways, noWays)
	}
}

// Calls: 32 symbols are taken, 33 are not, with a derivation or without one, by whatever leaf or rule.
func TestLong(t *testing.T) {
	b := loaded(t, "$c wff ~ $. $v x y $. wx $f wff x $. wy $f wff y $. wn $a wff ~ x $. ws $a wff x y $.")
	tildes := strings.Repeat(" ~", 30)
	c := at(t, b, 1)
	sayIs(t, b, c, "wff"+tildes+" x", answer{"wx" + strings.Repeat(" wn", 30), 1})
	sayIs(t, b, c, "wff"+tildes+" ~", none)
	for n := range 31 {
		sayIs(t, b, c, "wff"+strings.Repeat(" ~", n)+" x", answer{"wx" + strings.Repeat(" wn", n), 1})
	}
	longIs(t, b, c, read(b, "wff"+tildes+" ~ x"))
	longIs(t, b, c, read(b, "wff"+tildes+" ~ ~"))
	longIs(t, b, c, make(api.Expr, 33))
	longIs(t, b, c, make(api.Expr, 100000))
	c = at(t, b, 2)
	sayIs(t, b, c, "wff"+strings.Repeat(" x", 31), answer{strings.Repeat("wx ", 31) + strings.Repeat("ws ", 29) + "ws", 257})
	longIs(t, b, c, read(b, "wff"+strings.Repeat(" x", 32)))
	for _, n := range []int{31, 32, 33, 34, 200} {
		e := append(api.Expr{-7}, slices.Repeat(api.Expr{-8}, n-1)...)
		c.Hyps = append(c.Hyps, api.Hyp{Label: fmt.Sprint("long", n), Var: -1, Expr: e})
		if n > 32 {
			longIs(t, b, c, e)
		} else if got := says(t, b, c, e); got != (answer{fmt.Sprint("long", n), 1}) {
			t.Errorf("21.2: a leaf of %d symbols: %+v", n, got)
		}
	}
}

// 21.3: so many ways as there are, up to 257: of strings cut in two again and again.
func TestCatalan(t *testing.T) {
	b := loaded(t, begin)
	c := at(t, b, 2)
	catalan := []int{1, 1, 2, 5, 14, 42, 132}
	for n := 1; n <= 31; n++ {
		want := 257
		if n <= len(catalan) {
			want = catalan[n-1]
		}
		sayIs(t, b, c, "wff"+strings.Repeat(" x", n), answer{strings.TrimSpace(strings.Repeat("wx ", n) + strings.Repeat("ws ", n-1)), want})
	}
}

// 21.3: the ways of each beginning of a row of symbols, in which a word is one symbol, in two ways, or two; with leaves also each beginning is a leaf itself.
func TestRows(t *testing.T) {
	text := "$c t u l $. $v a c $. ha $f t a $. hc $f u c $. i $a t l $. j $a t l $. k $a t l l $. m $a u $. n $a u a c $. ${ "
	for n := range 9 {
		text += fmt.Sprintf("e%d $e u%s $. ", n, strings.Repeat(" l", n))
	}
	b := loaded(t, text+"o $a u l $. $}")
	rules, leaves := at(t, b, b.Count()-1), at(t, b, b.Count()-1)
	rules.Hyps = rules.Hyps[:2]
	without := []int{1, 2, 5, 12, 29, 70, 169, 257, 257}
	with := []int{2, 5, 13, 32, 78, 189, 257, 257, 257}
	for n := range 9 {
		e := read(b, "u"+strings.Repeat(" l", n))
		if ways := says(t, b, rules, e).ways; ways != without[n] {
			t.Errorf("21.3: %d symbols: %d, want %d", n, ways, without[n])
		}
		if ways := says(t, b, leaves, e).ways; ways != with[n] {
			t.Errorf("21.3: %d symbols, with leaves: %d, want %d", n, ways, with[n])
		}
	}
}

// products writes rules by which a string of so many symbols has the product of these numbers of ways, and so many more.
func products(factors []int, more int) string {
	var text strings.Builder
	text.WriteString("$c t u $. $v c $. hc $f u c $. end $a u $. ")
	for i, n := range factors {
		fmt.Fprintf(&text, "$c k%d s%d $. $v v%d $. h%d $f k%d v%d $. ", i, i, i, i, i, i)
		for j := range n {
			fmt.Fprintf(&text, "f%d.%d $a k%d s%d $. ", i, j, i, i)
		}
	}
	text.WriteString("all $a t")
	for i := range factors {
		fmt.Fprintf(&text, " v%d", i)
	}
	text.WriteString(" $. ")
	for j := range more {
		fmt.Fprintf(&text, "more.%d $a t", j)
		for i := range factors {
			fmt.Fprintf(&text, " s%d", i)
		}
		text.WriteString(" $. ")
	}
	return text.String()
}

// 21.3: products and sums of ways, about 256 and far above.
func TestProducts(t *testing.T) {
	for _, x := range []struct {
		factors    []int
		more, want int
	}{
		{[]int{2, 2, 2, 2, 2, 2, 2, 2}, 0, 256},
		{[]int{2, 2, 2, 2, 2, 2, 2, 2}, 1, 257},
		{[]int{2, 2, 2, 2, 2, 2, 2, 2}, 2, 257},
		{[]int{16, 16}, 0, 256},
		{[]int{16, 16}, 1, 257},
		{[]int{256}, 0, 256},
		{[]int{257}, 0, 257},
		{[]int{258}, 0, 257},
		{[]int{1, 1, 257, 1}, 0, 257},
		{[]int{5, 51}, 0, 255},
		{[]int{5, 51}, 1, 256},
		{[]int{5, 51}, 2, 257},
		{[]int{3, 3, 3, 3, 3}, 13, 256},
		{[]int{3, 3, 3, 3, 3}, 14, 257},
		{[]int{17, 17}, 0, 257},
		{[]int{20, 20, 20, 20, 20, 20, 20, 20, 20, 20, 20, 20, 20, 20, 20, 20, 20, 20}, 0, 257},
		{nil, 255, 256},
		{nil, 256, 257},
		{nil, 300, 257},
		{[]int{300, 0}, 0, 0},
		{[]int{300, 0}, 1, 1},
		{[]int{0, 300}, 2, 2},
	} {
		b := loaded(t, products(x.factors, x.more)+"last $a u $.")
		words := "t"
		for i := range x.factors {
			words += fmt.Sprint(" s", i)
		}
		if got := says(t, b, at(t, b, b.Count()), read(b, words)); got.ways != x.want {
			t.Errorf("21.3: %v and %d: %d ways, want %d", x.factors, x.more, got.ways, x.want)
		}
	}
}

// 21.3: leaves count one by one, in a context of any length.
func TestManyLeaves(t *testing.T) {
	b := loaded(t, begin)
	c := at(t, b, 1)
	for _, words := range []string{"", "wff", "wff x", "-> )", "y wff"} {
		c.Hyps = nil
		for n := range 300 {
			c.Hyps = append(c.Hyps, api.Hyp{Label: fmt.Sprint("leaf.", n), Var: -1, Expr: read(b, words)})
			if got := says(t, b, c, read(b, words)); got != (answer{"leaf.0", min(n+1, 257)}) {
				t.Fatalf("21.3: %d leaves %q: %+v", n+1, words, got)
			}
		}
	}
}

// sized writes rules by which the empty string behind the type told has a least derivation of just so many labels: by doubling and by one more.
func sized(size int) (text, kind string) {
	var steps []byte
	for n := size; n > 1; {
		if n%2 == 1 {
			steps, n = append(steps, 2), (n-1)/2
		} else {
			steps, n = append(steps, 1), n-1
		}
	}
	slices.Reverse(steps)
	return stepped(steps)
}

// stepped writes rules, each of which has as many parts of the type of the rule ahead of it as is told.
func stepped(steps []byte) (text, kind string) {
	var all strings.Builder
	all.WriteString("$c k0 l $. r0 $a k0 $. ")
	for i, parts := range steps {
		fmt.Fprintf(&all, "$v a%d b%d $. ha%d $f k%d a%d $. hb%d $f k%d b%d $. $c k%d $. ", i, i, i, i, i, i, i, i, i+1)
		fmt.Fprintf(&all, "r%d $a k%d a%d ", i+1, i+1, i)
		if parts == 2 {
			fmt.Fprintf(&all, "b%d ", i)
		}
		all.WriteString("$. ")
	}
	return all.String(), fmt.Sprint("k", len(steps))
}

// 21.1, 21.2: a least size up to MaxUnfold is told, and its labels are; of one above, that it is above.
func TestSizes(t *testing.T) {
	for _, size := range []int{1, 2, 3, 4, 7, 100, 1023, 1024, 1998, 1999, 2000, 2001, 2002, 2003, 3999, 4000, 4001, 4002, 1 << 20} {
		text, kind := sized(size)
		b := loaded(t, text+fmt.Sprintf("$v v $. hv $f %s v $. $c top $. top $a top v l $. both $a top l $. last $a %s l l $.", kind, kind))
		c := at(t, b, b.Count()-2)
		sizeIs(t, b, c, read(b, kind), size)
		sizeIs(t, b, c, read(b, "top l"), size+1)
		c.Before = b.Count()
		sizeIs(t, b, c, read(b, "top l"), 1)
	}
}

// sizeIs holds a least size to be what it is, or to be told as above the limit.
func sizeIs(t *testing.T, b *base.Base, c api.Context, e api.Expr, want int) {
	t.Helper()
	size, noSize := Least(b, c, e)
	labels, no := Prove(b, c, e)
	if noSize != api.OK || size != min(want, api.MaxUnfold+1) {
		t.Errorf("21.1: of size %d: %d, %d", want, size, noSize)
	}
	if want > api.MaxUnfold {
		if no != api.ErrLong || labels != nil {
			t.Errorf("21.2: of size %d: %d labels, %d", want, len(labels), no)
		}
		return
	}
	if no != api.OK || len(labels) != want {
		t.Errorf("21.2: of size %d: %d labels, %d", want, len(labels), no)
	}
	accepted(t, b, c, e, labels)
}

// R10: sizes that double and double are counted, not made; and so are ways.
func TestDoubled(t *testing.T) {
	begun := time.Now()
	text, kind := stepped(slices.Repeat([]byte{2}, 150))
	b := loaded(t, text+fmt.Sprintf("$v v w $. hv $f %s v $. hw $f %s w $. two $a %s l v w $. last $a %s l l l l $.", kind, kind, kind, kind))
	c := at(t, b, b.Count()-1)
	for i := range 151 {
		sizeIs(t, b, c, read(b, fmt.Sprint("k", i)), 1<<min(i+1, 40)-1)
	}
	for n := 1; n <= 31; n++ {
		sizeIs(t, b, c, read(b, kind+strings.Repeat(" l", n)), 1<<40)
	}
	// What is above the limit is told as that, and what is beside it by its size.
	c.Before = b.Count()
	sizeIs(t, b, c, read(b, kind+" l l l l"), 1)
	sizeIs(t, b, c, read(b, kind+" l l l"), 1<<40)
	text, _ = stepped(slices.Repeat([]byte{2}, 150))
	b = loaded(t, text+"again $a k0 $.")
	for i := range 151 {
		want := 257
		if i < 4 {
			want = 1 << (1 << i)
		}
		if got, code := Ways(b, at(t, b, b.Count()), read(b, fmt.Sprint("k", i))); got != want || code != api.OK {
			t.Errorf("21.3: two ways, doubled %d times: %d, %d", i, got, code)
		}
	}
	if d := time.Since(begun); d > time.Minute {
		t.Errorf("R10: doubled sizes took %v", d)
	}
}

// 21.3: 16 parts of 16 ways each, in a string that is empty and in one that is not: too many to be multiplied in an int.
func TestManyParts(t *testing.T) {
	text, many := "$c t u l $. ", ""
	for i := range 16 {
		many += fmt.Sprint(" v", i)
		text += fmt.Sprintf("$v v%d $. h%d $f u v%d $. e%d $a u $. l%d $a u l $. ", i, i, i, i, i)
	}
	b := loaded(t, text+"all $a t"+many+" $. last $a t l $.")
	for n := range 17 {
		proof := strings.Repeat("e0 ", 16-n) + strings.Repeat("l0 ", n) + "all"
		sayIs(t, b, at(t, b, b.Count()-1), "t"+strings.Repeat(" l", n), answer{proof, 257})
	}
}
