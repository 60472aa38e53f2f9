package sym

import (
	"slices"
	"testing"

	"lemma/api"
	"lemma/scan"
)

// event is a call that was taken: 'o', 'x' (open, close), 'c', 'v' (a symbol), 'l' (a label); and how many scopes were open behind it.
type event struct {
	kind  byte
	name  string
	depth int
}

// model is a second reading of the chapter: it keeps the calls that were taken, and works every answer out from them.
type model struct {
	log []event
}

func (m *model) depth() int {
	if len(m.log) == 0 {
		return 0
	}
	return m.log[len(m.log)-1].depth
}

func (m *model) add(kind byte, name string, depth int) {
	m.log = append(m.log, event{kind, name, depth})
}

func (m *model) open() api.Errno {
	if m.depth() == api.MaxDepth {
		return api.ErrScope
	}
	m.add('o', "", m.depth()+1)
	return api.OK
}

func (m *model) close() api.Errno {
	if m.depth() == 0 {
		return api.ErrScope
	}
	m.add('x', "", m.depth()-1)
	return api.OK
}

// symbols tells the first declarations, in order.
func (m *model) symbols() []event {
	var l []event
	for _, e := range m.log {
		same := func(f event) bool { return f.name == e.name }
		if (e.kind == 'c' || e.kind == 'v') && !slices.ContainsFunc(l, same) {
			l = append(l, e)
		}
	}
	return l
}

func (m *model) number(name string) int {
	return slices.IndexFunc(m.symbols(), func(e event) bool { return e.name == name })
}

// active: behind the last declaration the depth never fell below what it was there.
func (m *model) active(name string) bool {
	for i, e := range slices.Backward(m.log) {
		if (e.kind == 'c' || e.kind == 'v') && e.name == name {
			for _, f := range m.log[i:] {
				if f.depth < e.depth {
					return false
				}
			}
			return true
		}
	}
	return false
}

func (m *model) constant(s string) (int, api.Errno) {
	switch {
	case m.depth() > 0:
		return 0, api.ErrScope
	case !scan.Symbol(s):
		return 0, api.ErrName
	case m.number(s) >= 0:
		return 0, api.ErrTwice
	case len(m.symbols()) == api.MaxSymbols:
		return 0, api.ErrMany
	}
	m.add('c', s, 0)
	return m.number(s), api.OK
}

func (m *model) variable(s string) (int, api.Errno) {
	switch {
	case !scan.Symbol(s):
		return 0, api.ErrName
	case m.active(s):
		return 0, api.ErrTwice
	case m.number(s) < 0 && len(m.symbols()) == api.MaxSymbols:
		return 0, api.ErrMany
	}
	m.add('v', s, m.depth())
	return m.number(s), api.OK
}

func (m *model) labels() []string {
	var l []string
	for _, e := range m.log {
		if e.kind == 'l' {
			l = append(l, e.name)
		}
	}
	return l
}

func (m *model) label(s string) api.Errno {
	switch {
	case !scan.Name(s):
		return api.ErrName
	case slices.Contains(m.labels(), s):
		return api.ErrTwice
	case len(m.labels()) == api.MaxLabels:
		return api.ErrMany
	}
	m.add('l', s, m.depth())
	return api.OK
}

// call is one of the calls that change a table.
type call struct {
	kind byte
	name string
}

func (c call) String() string { return string(c.kind) + c.name }

// deeper tells by how many scopes a call that is taken goes in.
func (c call) deeper() int {
	switch c.kind {
	case 'o':
		return 1
	case 'x':
		return -1
	}
	return 0
}

func (c call) ofTable(x *Table) (int, api.Errno) {
	switch c.kind {
	case 'o':
		return 0, x.Open()
	case 'x':
		return 0, x.Close()
	case 'c':
		return x.Const(c.name)
	case 'v':
		return x.Var(c.name)
	}
	return 0, x.Label(c.name)
}

func (c call) ofModel(m *model) (int, api.Errno) {
	switch c.kind {
	case 'o':
		return 0, m.open()
	case 'x':
		return 0, m.close()
	case 'c':
		return m.constant(c.name)
	case 'v':
		return m.variable(c.name)
	}
	return 0, m.label(c.name)
}

// sameState holds all that a table tells against the model, and its parts against each other (P2.2, P2.4).
func sameState(t *testing.T, x *Table, m *model) {
	t.Helper()
	s := m.symbols()
	if x.Depth() != m.depth() || x.Count() != len(s) || !slices.Equal(x.Labels(), m.labels()) {
		t.Fatalf("%v: depth %d, count %d, labels %q", m.log, x.Depth(), x.Count(), x.Labels())
	}
	for n := -1; n <= len(s); n++ {
		var e event
		if n >= 0 && n < len(s) {
			e = s[n]
		}
		active := m.active(e.name)
		if x.Name(n) != e.name || x.IsVar(n) != (e.kind == 'v') || x.Active(n) != active {
			t.Fatalf("%v: symbol %d: %q, %v, %v", m.log, n, x.Name(n), x.IsVar(n), x.Active(n))
		}
		found, ok := x.Find(x.Name(n))
		if ok != active || ok && found != n || !ok && found != 0 {
			t.Fatalf("%v: Find(%q): %d, %v", m.log, x.Name(n), found, ok)
		}
	}
}

// replay runs calls on a new table and a new model side by side, and holds every answer of both against each other.
func replay(t *testing.T, calls []call) {
	t.Helper()
	x, m := New(), &model{}
	for i, c := range calls {
		n, e := c.ofTable(x)
		if k, f := c.ofModel(m); n != k || e != f {
			t.Fatalf("%v: answers %d, %d, want %d, %d", calls[:i+1], n, e, k, f)
		}
	}
	sameState(t, x, m)
}

// P2.1 to P2.5: all short runs of calls, held against the model.
func TestAllShortRuns(t *testing.T) {
	all := []call{{'o', ""}, {'x', ""}, {'c', "a"}, {'v', "a"}, {'v', "b"}, {'c', "b"}, {'l', "a"}, {'v', "$"}}
	const most = 6
	var run []call
	var grow func()
	grow = func() {
		replay(t, run)
		if len(run) == most || t.Failed() {
			return
		}
		for _, c := range all {
			run = append(run, c)
			grow()
			run = run[:len(run)-1]
		}
	}
	grow()
}

// P2.1 to P2.5: long runs of calls, of many names and to all depths, by a fixed rule.
func TestLongRuns(t *testing.T) {
	kinds := "oooxxvvvvvvvcl"
	names := []string{"a", "b", "c", "d", "e", "f", "|-", "(", "$", "", "a b"}
	seed := uint32(1)
	next := func(n int) int {
		seed = seed*1664525 + 1013904223
		return int(seed>>8) % n
	}
	for range 300 {
		var run []call
		for range 60 {
			run = append(run, call{kinds[next(len(kinds))], names[next(len(names))]})
		}
		replay(t, run)
	}
}

// P2.3: behind Open, calls that leave this scope open, and Close, what is active is what was active ahead of the Open.
func TestCloseUndoesOpen(t *testing.T) {
	ahead := []call{{'c', "k"}, {'v', "a"}, {'o', ""}, {'v', "b"}, {'o', ""}, {'v', "c"}, {'x', ""}}
	within := []call{{'o', ""}, {'x', ""}, {'v', "a"}, {'v', "b"}, {'v', "c"}, {'v', "d"}, {'c', "e"}, {'l', "c"}}
	var inner []call
	var grow func(depth int)
	try := func() {
		x := New()
		for _, c := range ahead {
			c.ofTable(x)
		}
		was := []bool{x.Active(0), x.Active(1), x.Active(2), x.Active(3), x.Active(4)}
		x.Open()
		for _, c := range inner {
			c.ofTable(x)
		}
		x.Close()
		is := []bool{x.Active(0), x.Active(1), x.Active(2), x.Active(3), x.Active(4)}
		if x.Depth() != 1 || !slices.Equal(is, was) {
			t.Fatalf("%v: depth %d, active %v, was %v", inner, x.Depth(), is, was)
		}
	}
	grow = func(depth int) {
		if depth == 0 {
			try()
		}
		if len(inner) == 5 {
			return
		}
		for _, c := range within {
			if c.kind == 'x' && depth == 0 {
				continue
			}
			inner = append(inner, c)
			grow(depth + c.deeper())
			inner = inner[:len(inner)-1]
		}
	}
	grow(0)
}
