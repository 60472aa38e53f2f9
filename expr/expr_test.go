package expr

import (
	"math"
	"slices"
	"strconv"
	"strings"
	"testing"
	"unsafe"

	"lemma/api"
	"lemma/sym"
)

// chapterTable is the chapter's: wff 0, ( 1, ph 2, and ps 3 in a scope that is closed.
func chapterTable(t *testing.T) *sym.Table {
	t.Helper()
	x := sym.New()
	x.Const("wff")
	x.Const("(")
	x.Var("ph")
	x.Open()
	if n, e := x.Var("ps"); n != 3 || e != api.OK || x.Close() != api.OK {
		t.Fatal("the table is not the chapter's")
	}
	return x
}

func run(length, of int) api.Expr { return slices.Repeat(api.Expr{of}, length) }

// P3.1, P3.2: the chapter's examples, edges, and both ways round.
func TestEqualAndCompare(t *testing.T) {
	long := run(1000, 7)
	for _, x := range []struct {
		a, b api.Expr
		want int
	}{
		{nil, nil, 0}, {nil, api.Expr{}, 0}, {api.Expr{}, api.Expr{}, 0}, {nil, api.Expr{0}, -1}, {api.Expr{}, api.Expr{-5}, -1},
		{api.Expr{1, 2}, api.Expr{1, 2}, 0}, {api.Expr{1}, api.Expr{1, 2}, -1}, {api.Expr{1, 2}, api.Expr{1, 3}, -1},
		{api.Expr{9}, api.Expr{1, 1}, -1}, {api.Expr{-2}, api.Expr{-1}, -1}, {api.Expr{1, 9}, api.Expr{2, 1}, -1}, {api.Expr{1, 2, 9}, api.Expr{1, 3, 0}, -1},
		{api.Expr{math.MinInt}, api.Expr{math.MaxInt}, -1}, {api.Expr{-1}, api.Expr{math.MaxInt}, -1}, {api.Expr{0, 0}, api.Expr{0, math.MaxInt}, -1},
		{long, slices.Clone(long), 0}, {long, append(slices.Clone(long[1:]), 8), -1}, {long[1:], long, -1},
	} {
		if n := Compare(x.a, x.b); n != x.want {
			t.Errorf("P3.2: Compare(%v, %v) = %d, want %d", x.a, x.b, n, x.want)
		}
		if n := Compare(x.b, x.a); n != -x.want {
			t.Errorf("P3.2: Compare(%v, %v) = %d, want %d", x.b, x.a, n, -x.want)
		}
		if Equal(x.a, x.b) != (x.want == 0) || Equal(x.b, x.a) != (x.want == 0) {
			t.Errorf("P3.1: Equal(%v, %v) = %v, the other way round %v", x.a, x.b, Equal(x.a, x.b), Equal(x.b, x.a))
		}
	}
}

// P3.3: the chapter's example; numbers that are no symbols; a long expression; vars that calls all or none variables.
func TestVars(t *testing.T) {
	table := chapterTable(t)
	all := func(int) bool { return true }
	none := func(int) bool { return false }
	below := func(n int) bool { return n < 0 }
	for i, x := range []struct {
		e    api.Expr
		vars func(int) bool
		want []int
	}{
		{api.Expr{2, 1, 3, 2}, table.IsVar, []int{2, 3}},
		{api.Expr{3, 0, 2}, table.IsVar, []int{2, 3}},
		{api.Expr{0, 1, 4, -1, math.MaxInt}, table.IsVar, nil},
		{nil, all, nil}, {api.Expr{}, all, nil}, {api.Expr{1, 2, 3}, none, nil},
		{api.Expr{5, -5, 0, 5, -5}, all, []int{-5, 0, 5}},
		{api.Expr{1, -1, math.MinInt, -1, math.MaxInt}, below, []int{math.MinInt, -1}},
		{run(1000, 2), table.IsVar, []int{2}},
	} {
		if l := Vars(x.e, x.vars); !slices.Equal(l, x.want) {
			t.Errorf("P3.3: row %d: Vars = %v, want %v", i, l, x.want)
		}
	}
	many := make(api.Expr, 0, 2000)
	for n := range 1000 {
		many = append(many, 999-n, n)
	}
	l := Vars(many, func(n int) bool { return n%2 == 0 })
	if len(l) != 500 || l[0] != 0 || l[499] != 998 || !slices.IsSorted(l) {
		t.Errorf("P3.3: the even ones of 0 to 999, each twice: %v", l)
	}
}

// P3.3, section 'Types': vars is asked of nothing but what stands in the expression.
func TestVarsAsks(t *testing.T) {
	e := api.Expr{4, -7, 4, 90}
	Vars(e, func(n int) bool {
		if !slices.Contains(e, n) {
			t.Errorf("vars is asked of %d, which does not stand in %v", n, e)
		}
		return true
	})
	Vars(nil, func(n int) bool {
		t.Errorf("vars is asked of %d, though there is no symbol", n)
		return true
	})
}

// P3.4: the chapter's examples, and MaxExpr symbols and one more, in every way to part them.
func TestJoin(t *testing.T) {
	for _, x := range []struct {
		parts []api.Expr
		want  api.Expr
	}{
		{nil, nil}, {[]api.Expr{nil}, nil}, {[]api.Expr{nil, {}, nil}, nil},
		{[]api.Expr{{1, 2}, nil, {3}}, api.Expr{1, 2, 3}}, {[]api.Expr{{3}, {1, 2}}, api.Expr{3, 1, 2}},
		{[]api.Expr{{-1}, {math.MinInt, 7}, {7}}, api.Expr{-1, math.MinInt, 7, 7}}, {[]api.Expr{{5, 5}}, api.Expr{5, 5}},
	} {
		if e, code := Join(x.parts...); code != api.OK || !slices.Equal(e, x.want) {
			t.Errorf("P3.4: Join(%v) = %v, %d, want %v", x.parts, e, code, x.want)
		}
	}
	if e, code := Join(); code != api.OK || len(e) != 0 {
		t.Errorf("P3.4: Join() = %v, %d", e, code)
	}
	for k := range api.MaxExpr + 1 {
		full := []api.Expr{run(k, 1), run(api.MaxExpr-k, 2)}
		if e, code := Join(full...); code != api.OK || !slices.Equal(e, append(run(k, 1), full[1]...)) {
			t.Errorf("P3.4: %d and %d symbols: %v, %d", k, api.MaxExpr-k, e, code)
		}
		tooLong(t, full[0], full[1], api.Expr{3})
		tooLong(t, full[0], api.Expr{3}, full[1])
	}
}

func tooLong(t *testing.T, parts ...api.Expr) {
	t.Helper()
	if e, code := Join(parts...); code != api.ErrTooLong || len(e) != 0 {
		t.Errorf("P3.4: Join of too many symbols: %d symbols, %d", len(e), code)
	}
}

// P3.4: single parts at and above MaxExpr, many small parts, one part again and again, empty parts without end.
func TestJoinManyAndLong(t *testing.T) {
	full := run(api.MaxExpr, 4)
	if e, code := Join(full); code != api.OK || !Equal(e, full) {
		t.Errorf("P3.4: one part of MaxExpr symbols: %d symbols, %d", len(e), code)
	}
	if e, code := Join(nil, full, nil); code != api.OK || !Equal(e, full) {
		t.Errorf("P3.4: one part of MaxExpr symbols between empty ones: %d symbols, %d", len(e), code)
	}
	tooLong(t, run(api.MaxExpr+1, 4))
	tooLong(t, nil, run(100000, 4))
	tooLong(t, full, full)
	single := slices.Repeat([]api.Expr{{6}}, api.MaxExpr)
	if e, code := Join(single...); code != api.OK || !Equal(e, run(api.MaxExpr, 6)) {
		t.Errorf("P3.4: MaxExpr parts of one symbol: %d symbols, %d", len(e), code)
	}
	tooLong(t, append(single, api.Expr{6})...)
	if e, code := Join(append(make([]api.Expr, 5000), api.Expr{1})...); code != api.OK || !Equal(e, api.Expr{1}) {
		t.Errorf("P3.4: 5000 empty parts and a symbol: %v, %d", e, code)
	}
	// A million symbols a part, a million parts: what is counted must not be made.
	tooLong(t, slices.Repeat([]api.Expr{run(1<<20, 1)}, 1<<20)...)
}

// P3.5: the chapter's examples, overlaps, the empty part, a part longer than the expression.
func TestPlaces(t *testing.T) {
	for _, x := range []struct {
		e, part api.Expr
		want    []int
	}{
		{api.Expr{1, 1, 1}, api.Expr{1, 1}, []int{0, 1}}, {api.Expr{1, 2}, api.Expr{}, []int{0, 1, 2}}, {api.Expr{1}, api.Expr{1, 1}, nil},
		{nil, nil, []int{0}}, {api.Expr{}, nil, []int{0}}, {nil, api.Expr{1}, nil}, {api.Expr{1, 2}, nil, []int{0, 1, 2}},
		{api.Expr{1, 2, 1}, api.Expr{1}, []int{0, 2}}, {api.Expr{1, 2, 3}, api.Expr{1, 2, 3}, []int{0}}, {api.Expr{1, 2, 3}, api.Expr{1, 2, 3, 4}, nil},
		{api.Expr{1, 2, 3}, api.Expr{2, 3}, []int{1}}, {api.Expr{1, 2, 3}, api.Expr{3, 4}, nil}, {api.Expr{1, 2, 3}, api.Expr{4}, nil},
		{api.Expr{1, 2, 1, 2, 1, 2, 1}, api.Expr{1, 2, 1}, []int{0, 2, 4}},
		{api.Expr{1, 1, 2, 1, 1, 1, 2, 1, 1, 2}, api.Expr{1, 1, 2, 1, 1}, []int{0, 4}},
		{api.Expr{-1, math.MinInt, -1, math.MinInt}, api.Expr{-1, math.MinInt}, []int{0, 2}},
	} {
		if l := Places(x.e, x.part); !slices.Equal(l, x.want) {
			t.Errorf("P3.5: Places(%v, %v) = %v, want %v", x.e, x.part, l, x.want)
		}
	}
}

// P3.5: lists far above MaxExpr, of which every place but the last fits for long.
func TestPlacesOfLongLists(t *testing.T) {
	const n, k = 1 << 18, 1 << 17
	e, part := run(n, 1), run(k, 1)
	if l := Places(e, part); !slices.Equal(l, counted(n-k+1)) {
		t.Errorf("P3.5: %d equal symbols in %d: %d places", k, n, len(l))
	}
	part[k-1] = 2
	if l := Places(e, part); len(l) != 0 {
		t.Errorf("P3.5: a part whose last symbol stands nowhere: %d places", len(l))
	}
	e[n-1] = 2
	if l := Places(e, part); !slices.Equal(l, []int{n - k}) {
		t.Errorf("P3.5: a part at the end alone: %d places", len(l))
	}
	if l := Places(e, e); !slices.Equal(l, []int{0}) {
		t.Errorf("P3.5: a list in itself: %d places", len(l))
	}
	if l := Places(e, nil); !slices.Equal(l, counted(n+1)) {
		t.Errorf("P3.5: the empty part in %d symbols: %d places", n, len(l))
	}
	if l := Places(part, e); len(l) != 0 {
		t.Errorf("P3.5: a part longer than the expression: %d places", len(l))
	}
}

// counted gives the first n numbers.
func counted(n int) []int {
	var l []int
	for i := range n {
		l = append(l, i)
	}
	return l
}

// checkRead holds what Read answers against what is wanted.
func checkRead(t *testing.T, table *sym.Table, words []string, want api.Expr, at int, code api.Errno) {
	t.Helper()
	e, n, c := Read(table, words)
	if !slices.Equal(e, want) || n != at || c != code {
		t.Errorf("P3.6: Read(%.40q ..), %d words: %v, %d, %d, want %v, %d, %d", strings.Join(words, " "), len(words), e, n, c, want, at, code)
	}
}

// P3.6: the chapter's examples, words that are no name, a variable that is not active, one that is active again.
func TestRead(t *testing.T) {
	table := chapterTable(t)
	checkRead(t, table, []string{"wff", "ph"}, api.Expr{0, 2}, 0, api.OK)
	checkRead(t, table, []string{"ph", "(", "(", "ph"}, api.Expr{2, 1, 1, 2}, 0, api.OK)
	checkRead(t, table, nil, nil, 0, api.OK)
	checkRead(t, table, []string{}, nil, 0, api.OK)
	checkRead(t, table, []string{"wff", "ps", "x"}, nil, 1, api.ErrSymbol)
	checkRead(t, table, []string{"ps"}, nil, 0, api.ErrSymbol)
	for _, bad := range []string{"", " ", "x", "Wff", "wff ", "wff ph", "$2", "2", "-1", "\xff"} {
		checkRead(t, table, []string{bad}, nil, 0, api.ErrSymbol)
		checkRead(t, table, []string{"wff", "ph", bad, "ps"}, nil, 2, api.ErrSymbol)
	}
	table.Open()
	table.Var("ps")
	checkRead(t, table, []string{"wff", "ps", "x"}, nil, 2, api.ErrSymbol)
	checkRead(t, table, []string{"wff", "ps"}, api.Expr{0, 3}, 0, api.OK)
	table.Close()
	checkRead(t, table, []string{"wff", "ps"}, nil, 1, api.ErrSymbol)
	table.Label("lab")
	checkRead(t, table, []string{"wff", "lab"}, nil, 1, api.ErrSymbol)
}

// P3.6: MaxExpr words and more, and an unknown word ahead of, at and behind the word number MaxExpr.
func TestReadLimit(t *testing.T) {
	table := chapterTable(t)
	for _, length := range []int{api.MaxExpr - 1, api.MaxExpr, api.MaxExpr + 1, api.MaxExpr + 2, 5000} {
		words := slices.Repeat([]string{"ph"}, length)
		if length <= api.MaxExpr {
			checkRead(t, table, words, run(length, 2), 0, api.OK)
		} else {
			checkRead(t, table, words, nil, api.MaxExpr, api.ErrTooLong)
		}
		for _, at := range []int{0, 1, api.MaxExpr - 2, api.MaxExpr - 1, api.MaxExpr, api.MaxExpr + 1, length - 1} {
			if at >= length {
				continue
			}
			broken := slices.Clone(words)
			broken[at] = "x"
			if at < api.MaxExpr {
				checkRead(t, table, broken, nil, at, api.ErrSymbol)
			} else {
				checkRead(t, table, broken, nil, api.MaxExpr, api.ErrTooLong)
			}
		}
	}
	checkRead(t, table, append([]string{"x"}, slices.Repeat([]string{"y"}, 300)...), nil, 0, api.ErrSymbol)
}

// P3.7: the chapter's example, numbers without a name, variables that are not active, long expressions.
func TestPrint(t *testing.T) {
	table := chapterTable(t)
	for _, x := range []struct {
		e    api.Expr
		want string
	}{
		{nil, ""}, {api.Expr{}, ""}, {api.Expr{0, 2, 3, 7, -1}, "wff ph ps $7 $-1"}, {api.Expr{3}, "ps"}, {api.Expr{2, 2}, "ph ph"},
		{api.Expr{4}, "$4"}, {api.Expr{-1}, "$-1"}, {api.Expr{-10, 1, 10}, "$-10 ( $10"}, {api.Expr{512, 100000}, "$512 $100000"},
		{api.Expr{math.MinInt, math.MaxInt}, "$" + strconv.Itoa(math.MinInt) + " $" + strconv.Itoa(math.MaxInt)},
		{run(1000, 1), strings.Repeat(" (", 1000)[1:]},
	} {
		if s := Print(table, x.e); s != x.want {
			t.Errorf("P3.7: Print(%v) = %q, want %q", x.e, s, x.want)
		}
	}
	if s := Print(sym.New(), api.Expr{0, 1}); s != "$0 $1" {
		t.Errorf("P3.7: of a table without symbols: %q", s)
	}
}

// P3.8: what is printed of active symbols is read back, up to MaxExpr of them; what has no name, or is not active, is not.
func TestPrintIsReadBack(t *testing.T) {
	table := chapterTable(t)
	table.Open()
	for n := 4; n < api.MaxSymbols; n++ {
		table.Var("|" + strconv.Itoa(n))
	}
	symbols := append([]int{0, 1, 2}, counted(api.MaxSymbols)[4:]...)
	for from := range symbols {
		for _, length := range []int{1, 2, 17, api.MaxExpr} {
			e := slices.Clone(symbols[from:min(from+length, len(symbols))])
			checkRead(t, table, strings.Split(Print(table, e), " "), e, 0, api.OK)
		}
	}
	checkRead(t, table, strings.Fields(Print(table, nil)), nil, 0, api.OK)
	for _, none := range []int{3, -1, api.MaxSymbols, math.MinInt} {
		checkRead(t, table, strings.Split(Print(table, api.Expr{0, none, 2}), " "), nil, 1, api.ErrSymbol)
	}
	table.Close()
	checkRead(t, table, strings.Split(Print(table, api.Expr{0, 4}), " "), nil, 1, api.ErrSymbol)
}

// spare gives a list that is the beginning of a longer one, with the longer one: what is written behind its end is seen there.
func spare(l ...int) (api.Expr, []int) {
	whole := append(slices.Clone(l), 77, 78, 79)
	return whole[:len(l)], whole
}

// spoil writes over all of a list, its spare room too.
func spoil(l []int) {
	l = l[:cap(l)]
	for i := range l {
		l[i] = -1000 - i
	}
}

// R11: what is handed in stays, its spare room too; what is told is new memory, also where it is the whole of one argument.
func TestMemory(t *testing.T) {
	table := chapterTable(t)
	all := func(int) bool { return true }
	for name, call := range map[string]struct {
		do   func(a, b api.Expr) []int
		want []int
	}{
		"Vars":           {func(a, _ api.Expr) []int { return Vars(a, all) }, []int{1, 2, 3}},
		"Join of one":    {func(a, _ api.Expr) []int { e, _ := Join(a); return e }, []int{1, 2, 3}},
		"Join of two":    {func(a, b api.Expr) []int { e, _ := Join(a, b); return e }, []int{1, 2, 3, 3}},
		"Join and empty": {func(a, _ api.Expr) []int { e, _ := Join(nil, a, nil); return e }, []int{1, 2, 3}},
		"Join of a part": {func(a, _ api.Expr) []int { e, _ := Join(a[:1], a[1:2], a); return e }, []int{1, 2, 1, 2, 3}},
		"Places":         {func(a, b api.Expr) []int { return Places(a, b) }, []int{2}},
		"Places, empty":  {func(a, _ api.Expr) []int { return Places(a, nil) }, []int{0, 1, 2, 3}},
		"Read":           {func(_, _ api.Expr) []int { e, _, _ := Read(table, []string{"(", "ph"}); return e }, []int{1, 2}},
	} {
		a, wholeA := spare(1, 2, 3)
		b, wholeB := spare(3)
		first, second := call.do(a, b), call.do(a, b)
		if !slices.Equal(first, call.want) {
			t.Errorf("%s: %v, want %v", name, first, call.want)
		}
		spoil(first)
		if !slices.Equal(second, call.want) {
			t.Errorf("R11: %s: the second answer changed with the first: %v", name, second)
		}
		if !slices.Equal(wholeA, []int{1, 2, 3, 77, 78, 79}) || !slices.Equal(wholeB, []int{3, 77, 78, 79}) {
			t.Errorf("R11: %s: what was handed in is %v, %v", name, wholeA, wholeB)
		}
		spoil(a)
		spoil(b)
		if !slices.Equal(second, call.want) {
			t.Errorf("R11: %s: the answer changed with what was handed in: %v", name, second)
		}
	}
}

// R11: the calls that tell no list leave what is handed in as it is, too, and so do those that answer an error.
func TestArgumentsStay(t *testing.T) {
	table := chapterTable(t)
	a, wholeA := spare(3, 1, 2, 1)
	b, wholeB := spare(3, 2, 2, 1)
	Equal(a, b)
	Compare(a, b)
	Print(table, a)
	Vars(a, table.IsVar)
	tooLong(t, a, run(api.MaxExpr, 1), b)
	if !slices.Equal(wholeA, []int{3, 1, 2, 1, 77, 78, 79}) || !slices.Equal(wholeB, []int{3, 2, 2, 1, 77, 78, 79}) {
		t.Errorf("R11: what was handed in is %v, %v", wholeA, wholeB)
	}
	parts := []api.Expr{a[:1], b[:1]}
	Join(parts...)
	if !slices.Equal(parts[0], a[:1]) || !slices.Equal(parts[1], b[:1]) {
		t.Errorf("R11: the list of parts is %v", parts)
	}
	words := []string{"wff", "ph", "ps", "x"}
	for n := range len(words) + 1 {
		Read(table, words[:n])
	}
	if !slices.Equal(words, []string{"wff", "ph", "ps", "x"}) {
		t.Errorf("R11: the words are %q", words)
	}
}

// Section 'Types': no call changes the table; and R11: no text that is told is the table's own.
func TestTableStays(t *testing.T) {
	table := chapterTable(t)
	table.Label("lab")
	table.Open()
	Read(table, []string{"wff", "new"})
	Read(table, []string{"ps"})
	Read(table, []string{"wff", "ph"})
	Print(table, api.Expr{0, 1, 2, 3, 4, -1})
	Vars(api.Expr{0, 1, 2, 3, 4, -1}, table.IsVar)
	if table.Depth() != 1 || table.Count() != 4 || !slices.Equal(table.Labels(), []string{"lab"}) {
		t.Errorf("depth %d, %d symbols, labels %q", table.Depth(), table.Count(), table.Labels())
	}
	for n, active := range []bool{true, true, true, false, false} {
		if table.Active(n) != active {
			t.Errorf("symbol %d: active %v", n, !active)
		}
	}
	for n := range 4 {
		if s := Print(table, api.Expr{n}); unsafe.StringData(s) == unsafe.StringData(table.Name(n)) {
			t.Errorf("Print([%d]) is the table's own %q", n, s)
		}
	}
}
