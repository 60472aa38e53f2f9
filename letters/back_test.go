package letters

import (
	"slices"
	"strings"
	"testing"

	"lemma/api"
)

// least gives the least number of k letters, as P9.4 says: 5 * (5^(k-1) - 1).
func least(k int) int {
	power := 1
	for range k - 1 {
		power *= 5
	}
	return 5 * (power - 1)
}

// picked gives numbers: all small ones, those about the borders of every length and about powers of 2, and some by a fixed rule; rising, each once.
func picked() []int {
	var list []int
	about := func(n int) {
		for d := -2; d <= 2; d++ {
			if n+d >= 0 && n+d < top {
				list = append(list, n+d)
			}
		}
	}
	for n := range 20000 {
		list = append(list, n)
	}
	for k := 1; k <= 22; k++ {
		about(least(k))
	}
	for k := range 51 {
		about(1 << k)
	}
	r := rule(2)
	for range 20000 {
		list = append(list, r.number())
	}
	slices.Sort(list)
	return slices.Compact(list)
}

func encoded(t *testing.T, n int) string {
	t.Helper()
	s, code := Encode(n)
	if code != api.OK {
		t.Fatalf("P9.1: Encode(%d): %d", n, code)
	}
	return s
}

// P9.1, P9.2: the forms in order, those of fewer letters first, then by their letters, are the forms of 0, 1, 2 and so on.
func TestFormsInOrder(t *testing.T) {
	n := 0
	aheads := []string{""}
	for range 6 {
		var next []string
		for _, a := range aheads {
			for _, last := range "ABCDEFGHIJKLMNOPQRST" {
				form := a + string(last)
				if s := encoded(t, n); s != form {
					t.Fatalf("P9.2: Encode(%d) = %q, want %q", n, s, form)
				}
				checkRead(t, text(form), false, n)
				n++
			}
			for _, d := range "UVWXY" {
				next = append(next, a+string(d))
			}
		}
		aheads = next
	}
	if n != 5*(5*5*5*5*5*5-1) {
		t.Errorf("P9.4: of at most six letters there are %d forms", n)
	}
}

// P9.2: Decode of Encode(n) is n alone, and false, with the one word; Print of n is Encode(n).
func TestBack(t *testing.T) {
	for _, n := range picked() {
		word := api.Token{Text: encoded(t, n), At: api.Pos{Off: n}}
		if l, cut := Decode([]api.Token{word}); cut || !slices.Equal(l, []api.Code{{N: n, At: word}}) {
			t.Fatalf("P9.2: Decode(Encode(%d)) = %v, %v", n, l, cut)
		}
		if s, code := Print([]int{n}); s != word.Text || code != api.OK {
			t.Fatalf("P9.2: Print(%d) = %q, %d, want %q", n, s, code, word.Text)
		}
	}
}

// sound tells whether codes are numbers, saves and open steps alone, none 2^50.
func sound(codes []int) bool {
	return !slices.Contains(codes, bad) && !slices.Contains(codes, top)
}

// checkWritten holds that a text which is read as sound and not cut is written as it was; told whether it was such a one.
func checkWritten(t *testing.T, s string) bool {
	t.Helper()
	l, cut := Decode(words(s))
	if cut || !sound(numbers(l)) {
		return false
	}
	if back, code := Print(numbers(l)); back != s || code != api.OK {
		t.Fatalf("P9.2: Print of Decode(%.200q) = %.200q, %d", s, back, code)
	}
	return true
}

// P9.2: what is read is written back as that text: short texts, and long ones by a fixed rule.
func TestWrittenBack(t *testing.T) {
	count := 0
	short("ATUYZ?", 6, func(s string) {
		if checkWritten(t, s) {
			count++
		}
	})
	short("AUZa\xff", 5, func(s string) { checkWritten(t, s) })
	if want := soundTexts(6); count != want {
		t.Errorf("P9.2: %d sound texts of at most six bytes, want %d", count, want)
	}
	r := rule(3)
	count = 0
	for range 3000 {
		if checkWritten(t, r.long(r.below(20)+1, false)) {
			count++
		}
	}
	if count < 100 {
		t.Errorf("P9.2: of the long texts %d alone are sound", count)
	}
}

// soundTexts counts the texts of at most so many of the bytes A, T, U, Y, Z, ? in which a letter ends all digits: where none are open any of A, T, Z, ? may come, within digits A and T alone.
func soundTexts(most int) int {
	all, ended, within := 1, 1, 0
	for range most {
		ended, within = 4*ended+2*within, 2*ended+2*within
		all += ended
	}
	return all
}

// P9.2: codes that are written are read back, cut anywhere.
func TestCodesBack(t *testing.T) {
	r := rule(4)
	for range 500 {
		var codes []int
		for range r.below(60) {
			codes = append(codes, r.number()-r.below(3))
		}
		codes = slices.DeleteFunc(codes, func(n int) bool { return n < open })
		s, code := Print(codes)
		if code != api.OK {
			t.Fatalf("P9.1: Print(%v): %d", codes, code)
		}
		if l, cut := Decode(words(r.cutAnywhere(s)...)); cut || !slices.Equal(numbers(l), codes) {
			t.Fatalf("P9.2: Decode of Print(%v) = %v, %v", codes, numbers(l), cut)
		}
	}
}

// P9.2: two numbers have two forms, neither the beginning of the other: in the order of letters a beginning would stand right ahead of one that it begins.
func TestNoBeginning(t *testing.T) {
	var forms []string
	for _, n := range picked() {
		forms = append(forms, encoded(t, n))
	}
	slices.Sort(forms)
	for i, s := range forms[1:] {
		if strings.HasPrefix(s, forms[i]) {
			t.Fatalf("P9.2: %q is the beginning of %q", forms[i], s)
		}
	}
}

// P9.4: at the borders of every length: from 5 * (5^(k-1) - 1) on there are k letters, just below one less.
func TestLengths(t *testing.T) {
	for k := 1; k <= 21; k++ {
		from, to := least(k), min(least(k+1), top)-1
		for _, n := range []int{from, from + 1, from + (to-from)/2, to - 1, to} {
			if s := encoded(t, n); len(s) != k {
				t.Errorf("P9.4: Encode(%d) = %q, want %d letters", n, s, k)
			}
		}
		checkEncode(t, from, strings.Repeat("U", k-1)+"A")
		if to < top-1 {
			checkEncode(t, to, strings.Repeat("Y", k-1)+"T")
		}
	}
	if least(22) <= top {
		t.Errorf("P9.4: %d numbers have at most 21 letters", least(22))
	}
}

// P9.4: of two numbers the greater never has fewer letters, and each has as many as its place says.
func TestOrder(t *testing.T) {
	k := 1
	for _, n := range picked() {
		for n >= least(k+1) {
			k++
		}
		if s := encoded(t, n); len(s) != k {
			t.Fatalf("P9.4: Encode(%d) = %q, want %d letters", n, s, k)
		}
	}
}
