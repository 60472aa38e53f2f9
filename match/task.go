package match

import (
	"cmp"
	"slices"

	"lemma/api"
)

// A task is patterns set against expressions, brought down to what a search must look at: patterns may be of any length, what is left of them is short.
type task struct {
	vars  []int               // the patterns' variables, in the order in which they first stand there
	empty [api.MaxSpread]bool // which of them have no string but the empty one, as they stand too often for any other
	pairs []pair
	none  bool // a pattern has more constants than its expression has symbols: there is no match
}

// A pair is what is left of a pattern, and the expression that it must make.
type pair struct {
	cells []cell
	expr  api.Expr
}

// A cell is a symbol of a pattern.
type cell struct {
	slot   int // its place among the task's variables; -1: it is a constant
	symbol int
}

// newTask answers false, if patterns and expressions are not taken.
func newTask(patterns, l []api.Expr, vars func(int) bool) (task, bool) {
	if len(patterns) != len(l) || symbols(l) > api.MaxMatch {
		return task{}, false
	}
	t := task{vars: spread(patterns, vars)}
	if len(t.vars) > api.MaxSpread {
		return task{}, false
	}
	for i, p := range patterns {
		t.look(p, len(l[i]))
	}
	if t.none {
		return t, true
	}
	for i, p := range patterns {
		t.put(p, l[i])
	}
	return t, true
}

// symbols counts those of all expressions together, no further than over what is taken.
func symbols(l []api.Expr) int {
	n := 0
	for _, e := range l {
		n += len(e)
		if n > api.MaxMatch {
			return api.MaxMatch + 1
		}
	}
	return n
}

// spread gives the patterns' variables in the order in which they first stand there, and ends at the first one too many.
func spread(patterns []api.Expr, vars func(int) bool) []int {
	var order []int
	for _, p := range patterns {
		for _, x := range p {
			if slices.Contains(order, x) || !vars(x) {
				continue
			}
			order = append(order, x)
			if len(order) > api.MaxSpread {
				return order
			}
		}
	}
	return order
}

func (t *task) cell(x int) cell {
	return cell{slot: slices.Index(t.vars, x), symbol: x}
}

// look learns from a pattern, and the length of its expression, what no search is needed for.
func (t *task) look(pattern api.Expr, size int) {
	constants := 0
	var times [api.MaxSpread]int
	for _, x := range pattern {
		if c := t.cell(x); c.slot < 0 {
			constants++
		} else {
			times[c.slot]++
		}
	}
	t.none = t.none || constants > size
	for slot, n := range times {
		t.empty[slot] = t.empty[slot] || n > size
	}
}

// put lays a pattern beside its expression, without the variables that must be empty. Beside no symbol at all nothing would be left of it, as there is no constant in it then.
func (t *task) put(pattern, e api.Expr) {
	if len(e) == 0 {
		return
	}
	var cells []cell
	for _, x := range pattern {
		if c := t.cell(x); c.slot < 0 || !t.empty[c.slot] {
			cells = append(cells, c)
		}
	}
	t.pairs = append(t.pairs, pair{cells: cells, expr: e})
}

// binds tells a match: strings stand in the order of the task's variables, binds in that of their numbers.
func (t *task) binds(strings []api.Expr) []api.Bind {
	var told []api.Bind
	for slot, v := range t.vars {
		told = append(told, api.Bind{Var: v, Expr: append(api.Expr(nil), strings[slot]...)})
	}
	slices.SortFunc(told, func(a, b api.Bind) int { return cmp.Compare(a.Var, b.Var) })
	return told
}
