package sym

import (
	"slices"
	"strconv"
	"strings"
	"testing"
	"unsafe"

	"lemma/api"
)

// desk is a table with short ways to hold its answers against what is wanted.
type desk struct {
	*Table
	t *testing.T
}

func newDesk(t *testing.T) desk { return desk{New(), t} }

func (d desk) errno(what string, got, want api.Errno) {
	d.t.Helper()
	if got != want {
		d.t.Errorf("%s: %d, want %d", what, got, want)
	}
}

func (d desk) open(want api.Errno)  { d.t.Helper(); d.errno("Open", d.Open(), want) }
func (d desk) close(want api.Errno) { d.t.Helper(); d.errno("Close", d.Close(), want) }

func (d desk) label(s string, want api.Errno) {
	d.t.Helper()
	d.errno("Label("+s+")", d.Label(s), want)
}

func (d desk) declared(call, s string, n int, e api.Errno, number int, want api.Errno) {
	d.t.Helper()
	if n != number || e != want {
		d.t.Errorf("%s(%q): %d, %d, want %d, %d", call, s, n, e, number, want)
	}
}

func (d desk) constant(s string, number int, want api.Errno) {
	d.t.Helper()
	n, e := d.Const(s)
	d.declared("Const", s, n, e, number, want)
}

func (d desk) variable(s string, number int, want api.Errno) {
	d.t.Helper()
	n, e := d.Var(s)
	d.declared("Var", s, n, e, number, want)
}

func (d desk) finds(s string, number int, want bool) {
	d.t.Helper()
	if n, ok := d.Find(s); n != number || ok != want {
		d.t.Errorf("Find(%q): %d, %v, want %d, %v", s, n, ok, number, want)
	}
}

// symbol asks all that is told of a number.
func (d desk) symbol(n int, name string, variable, active bool) {
	d.t.Helper()
	if d.Name(n) != name || d.IsVar(n) != variable || d.Active(n) != active {
		d.t.Errorf("symbol %d: %q, %v, %v, want %q, %v, %v", n, d.Name(n), d.IsVar(n), d.Active(n), name, variable, active)
	}
}

func (d desk) has(depth, count int, labels ...string) {
	d.t.Helper()
	if d.Depth() != depth || d.Count() != count || !slices.Equal(d.Labels(), labels) {
		d.t.Errorf("depth %d, %d symbols, labels %q, want %d, %d, %q", d.Depth(), d.Count(), d.Labels(), depth, count, labels)
	}
}

// P2.1: a new table.
func TestNew(t *testing.T) {
	d := newDesk(t)
	d.has(0, 0)
	d.symbol(0, "", false, false)
	d.symbol(-1, "", false, false)
	d.finds("", 0, false)
	d.close(api.ErrScope)
}

// P2.1: the chapter's examples 1 to 3.
func TestExamplesOfSymbols(t *testing.T) {
	d := newDesk(t)
	d.constant("x", 0, api.OK)
	d.variable("y", 1, api.OK)
	d.variable("x", 0, api.ErrTwice)
	d.constant("y", 0, api.ErrTwice)
	d.variable("$v", 0, api.ErrName)
	d.constant("", 0, api.ErrName)
	d.finds("y", 1, true)
	d.finds("z", 0, false)
	d.symbol(0, "x", false, true)
	d.symbol(1, "y", true, true)
	d.symbol(2, "", false, false)
	d.symbol(-1, "", false, false)
	d.has(0, 2)

	d.open(api.OK)
	d.constant("c", 0, api.ErrScope)
	d.constant("", 0, api.ErrScope)
	d.variable("y", 0, api.ErrTwice)
	d.variable("z", 2, api.OK)
	d.open(api.OK)
	d.variable("w", 3, api.OK)
	d.close(api.OK)
	d.symbol(3, "w", true, false)
	d.finds("w", 0, false)
	d.variable("w", 3, api.OK)
	d.close(api.OK)
	d.symbol(1, "y", true, true)
	d.symbol(2, "z", true, false)
	d.symbol(3, "w", true, false)
	d.has(0, 4)
	d.close(api.ErrScope)

	d.constant("w", 0, api.ErrTwice)
	d.variable("w", 3, api.OK)
	d.open(api.OK)
	d.close(api.OK)
	d.symbol(3, "w", true, true)
	d.has(0, 4)
}

// P2.1, P2.5: the chapter's example 4; symbols and labels are apart.
func TestExamplesOfLabels(t *testing.T) {
	d := newDesk(t)
	d.constant("x", 0, api.OK)
	d.label("x", api.OK)
	d.label("x", api.ErrTwice)
	for _, s := range []string{"a b", "", "a$", "|-", strings.Repeat("a", api.MaxWord+1)} {
		d.label(s, api.ErrName)
	}
	d.open(api.OK)
	d.label("b.1", api.OK)
	d.close(api.OK)
	d.label("b.1", api.ErrTwice)
	d.has(0, 1, "x", "b.1")
	d.finds("b.1", 0, false)
	d.variable("b.1", 1, api.OK)
	d.has(0, 2, "x", "b.1")
}

// P2.1: which names may be; the order ErrScope, ErrName, ErrTwice.
func TestNames(t *testing.T) {
	d := newDesk(t)
	long := strings.Repeat("|", api.MaxWord)
	for _, s := range []string{"", "$", "a$b", "a b", "\x7f", "é", "a\n", long + "|"} {
		d.constant(s, 0, api.ErrName)
		d.variable(s, 0, api.ErrName)
		d.finds(s, 0, false)
	}
	d.has(0, 0)
	d.constant(long, 0, api.OK)
	d.variable("!", 1, api.OK)
	d.open(api.OK)
	d.constant(long, 0, api.ErrScope)
	d.constant("a b", 0, api.ErrScope)
	d.constant("new", 0, api.ErrScope)
	d.has(1, 2)
}

// P2.1: sixteen scopes, and one more, which leaves the open one as it is.
func TestDepthLimit(t *testing.T) {
	d := newDesk(t)
	for n := range api.MaxDepth {
		d.has(n, n)
		d.open(api.OK)
		d.variable("v"+strconv.Itoa(n), n, api.OK)
	}
	d.open(api.ErrScope)
	d.has(api.MaxDepth, api.MaxDepth)
	d.symbol(api.MaxDepth-1, "v15", true, true)
	for n := api.MaxDepth - 1; n >= 0; n-- {
		d.close(api.OK)
		d.symbol(n, "v"+strconv.Itoa(n), true, false)
		d.symbol(n-1, d.Name(n-1), n > 0, n > 0)
	}
	d.close(api.ErrScope)
	d.has(0, api.MaxDepth)
}

// full gives a table with MaxSymbols symbols: a variable that is not active, an active one, constants.
func full(t *testing.T) desk {
	d := newDesk(t)
	d.open(api.OK)
	d.variable("old", 0, api.OK)
	d.close(api.OK)
	d.variable("now", 1, api.OK)
	for n := 2; n < api.MaxSymbols; n++ {
		d.constant("c"+strconv.Itoa(n), n, api.OK)
	}
	return d
}

// P2.1: the chapter's example 6: the symbol number MaxSymbols, and what comes ahead of ErrMany.
func TestSymbolLimit(t *testing.T) {
	d := full(t)
	d.has(0, api.MaxSymbols)
	d.constant("new", 0, api.ErrMany)
	d.variable("new", 0, api.ErrMany)
	d.finds("new", 0, false)
	d.symbol(api.MaxSymbols, "", false, false)
	d.symbol(api.MaxSymbols-1, "c511", false, true)
	for _, s := range []string{"old", "now", "c2"} {
		d.constant(s, 0, api.ErrTwice)
	}
	d.constant("$", 0, api.ErrName)
	d.variable("$", 0, api.ErrName)
	d.variable("now", 0, api.ErrTwice)
	d.variable("c2", 0, api.ErrTwice)
	d.variable("old", 0, api.OK)
	d.variable("old", 0, api.ErrTwice)
	d.symbol(0, "old", true, true)
	d.label("new", api.OK)
	d.open(api.OK)
	d.constant("new", 0, api.ErrScope)
	d.variable("new", 0, api.ErrMany)
	d.has(1, api.MaxSymbols, "new")
}

// P2.1: in a full table a variable comes back in the scope that is open, and goes with it.
func TestOldVariableOfFullTable(t *testing.T) {
	d := full(t)
	for range 3 {
		d.open(api.OK)
		d.variable("old", 0, api.OK)
		d.finds("old", 0, true)
		d.close(api.OK)
		d.symbol(0, "old", true, false)
		d.finds("old", 0, false)
	}
	d.has(0, api.MaxSymbols)
}

// P2.1, P2.5: the label number MaxLabels, and what comes ahead of ErrMany.
func TestLabelLimit(t *testing.T) {
	d := newDesk(t)
	var want []string
	for n := range api.MaxLabels {
		s := "l" + strconv.Itoa(n)
		d.label(s, api.OK)
		want = append(want, s)
	}
	d.label("one-more", api.ErrMany)
	d.label("l0", api.ErrTwice)
	d.label("l1023", api.ErrTwice)
	d.label("a b", api.ErrName)
	d.has(0, 0, want...)
	d.variable("l0", 0, api.OK)
}

// P2.1, P2.4: numbers far out are no symbols.
func TestNoSymbol(t *testing.T) {
	d := newDesk(t)
	d.constant("c", 0, api.OK)
	d.variable("v", 1, api.OK)
	least := -1 << 63
	for _, n := range []int{least, -2, -1, 2, 3, api.MaxSymbols, least ^ -1} {
		d.symbol(n, "", false, false)
	}
}

// P2.3: a variable of an outer scope can't be declared further in, and stays when the inner scope closes; one that comes back belongs to the scope in which it came back.
func TestScopes(t *testing.T) {
	d := newDesk(t)
	d.open(api.OK)
	d.variable("a", 0, api.OK)
	d.open(api.OK)
	d.variable("a", 0, api.ErrTwice)
	d.variable("b", 1, api.OK)
	d.open(api.OK)
	d.variable("b", 0, api.ErrTwice)
	d.close(api.OK)
	d.symbol(1, "b", true, true)
	d.close(api.OK)
	d.symbol(0, "a", true, true)
	d.symbol(1, "b", true, false)
	d.variable("b", 1, api.OK)
	d.open(api.OK)
	d.variable("c", 2, api.OK)
	d.close(api.OK)
	d.symbol(1, "b", true, true)
	d.close(api.OK)
	d.symbol(0, "a", true, false)
	d.symbol(1, "b", true, false)
	d.open(api.OK)
	d.variable("c", 2, api.OK)
	d.variable("a", 0, api.OK)
	d.close(api.OK)
	d.symbol(0, "a", true, false)
	d.symbol(2, "c", true, false)
}

// P2.2: a closed scope leaves nothing to the next one of its depth.
func TestScopeBeginsEmpty(t *testing.T) {
	d := newDesk(t)
	d.open(api.OK)
	d.variable("a", 0, api.OK)
	d.close(api.OK)
	d.variable("a", 0, api.OK)
	d.open(api.OK)
	d.close(api.OK)
	d.symbol(0, "a", true, true)
}

// P2.6: what Labels answers is the caller's own, its spare room too; two tables share nothing.
func TestMemory(t *testing.T) {
	d := newDesk(t)
	for _, s := range []string{"a", "b", "c", "d", "e"} {
		d.label(s, api.OK)
	}
	first, second := d.Labels(), d.Labels()
	for n := range first {
		first[n] = "!"
	}
	_ = append(first, "!")
	if !slices.Equal(second, []string{"a", "b", "c", "d", "e"}) {
		t.Errorf("two answers share memory: %q", second)
	}
	d.label("f", api.OK)
	_ = append(second, "?")
	_ = append(d.Labels(), "?")
	d.has(0, 0, "a", "b", "c", "d", "e", "f")

	other := newDesk(t)
	other.has(0, 0)
	other.label("a", api.OK)
	other.constant("x", 0, api.OK)
	d.finds("x", 0, false)
}

// P2.6: a name that is handed in is not kept: it may be a piece of a long text.
func TestNamesAreCopied(t *testing.T) {
	d := newDesk(t)
	text := strings.Repeat("abc", 3)
	name := text[3:6]
	d.variable(name, 0, api.OK)
	d.label(name, api.OK)
	if unsafe.StringData(d.Name(0)) == unsafe.StringData(name) {
		t.Error("a symbol's name lies in the caller's memory")
	}
	if unsafe.StringData(d.Labels()[0]) == unsafe.StringData(name) {
		t.Error("a label lies in the caller's memory")
	}
}
