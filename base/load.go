package base

import (
	"slices"
	"strings"

	"lemma/api"
	"lemma/dist"
	"lemma/frame"
	"lemma/sym"
)

// loader takes statements into a base, up to the first word that offends: there it gives up by panic, from however deep inside.
type loader struct {
	base  *Base
	table *sym.Table
	stack *frame.Stack
}

func newLoader(text string) *loader {
	table := sym.New()
	return &loader{
		base: &Base{
			text:       strings.Clone(text), // it may be a piece of a longer one, which would be kept with it
			table:      table,
			numbers:    map[string]int{},
			hypAt:      map[string]int{},
			assertedAt: map[string]int{},
		},
		table: table,
		stack: frame.New(table.IsVar),
	}
}

// giveUp ends the loading at a word.
func giveUp(word api.Token, code api.Errno) {
	panic(&api.Fault{At: word.At, Text: word.Text, Code: code})
}

// refusalOf tells of what was recovered the fault at which a loader gave up; nil, if it did not. Anything else is a mistake in the program, which it would be wrong to hide.
func refusalOf(recovered any) *api.Fault {
	if recovered == nil {
		return nil
	}
	refusal, known := recovered.(*api.Fault)
	if !known {
		panic(recovered)
	}
	return refusal
}

// check gives up at a word, if there is an error.
func check(word api.Token, code api.Errno) {
	if code != api.OK {
		giveUp(word, code)
	}
}

// take looks at a statement's words in the order of the text.
func (l *loader) take(s api.Stmt) {
	if s.Label.Text != "" {
		// Nobody asks for a label within the statement, so that it may be taken ahead of its end.
		check(s.Label, l.table.Label(s.Label.Text))
	}
	switch s.Kind {
	case api.StOpen:
		check(s.Key, l.table.Open())
		check(s.Key, l.stack.Open())
	case api.StClose:
		check(s.Key, l.table.Close())
		check(s.Key, l.stack.Close())
	case api.StConst:
		l.constants(s)
	case api.StVar:
		l.declare(s.Words, l.table.Var)
	case api.StDist:
		l.part(s)
	case api.StFloat:
		l.float(s)
	case api.StEss:
		l.ess(s)
	case api.StAxiom, api.StTheorem:
		l.assert(s)
	}
}

func (l *loader) constants(s api.Stmt) {
	if l.table.Depth() > 0 {
		giveUp(s.Key, api.ErrConst)
	}
	l.declare(s.Words, l.table.Const)
}

// declare declares symbols, each as soon as it was looked at.
func (l *loader) declare(words []api.Token, as func(string) (int, api.Errno)) {
	for _, word := range words {
		n, code := as(word.Text)
		check(word, code)
		l.base.numbers[word.Text] = n
	}
}

// part declares variables distinct. The pairs are counted word by word, so that the word which makes one too many is told.
func (l *loader) part(s api.Stmt) {
	var ahead []int
	apart := l.stack.Scope().Pairs
	for _, word := range s.Words {
		v := l.variable(word)
		if slices.Contains(ahead, v) {
			giveUp(word, api.ErrSame)
		}
		for _, u := range ahead {
			apart = with(apart, api.Pair{A: u, B: v})
		}
		if len(apart) > api.MaxPairs {
			giveUp(word, api.ErrMany)
		}
		ahead = append(ahead, v)
	}
	if ended(s) {
		check(s.End, l.stack.Dist(ahead))
	}
}

// with gives the pairs with one more, unless it is there.
func with(pairs []api.Pair, p api.Pair) []api.Pair {
	if dist.Has(pairs, p) {
		return pairs
	}
	return append(pairs, p)
}

func (l *loader) float(s api.Stmt) {
	var e api.Expr
	for i, word := range s.Words {
		if i == 0 {
			e = append(e, l.constant(word))
		} else {
			e = append(e, l.untyped(word))
		}
	}
	if ended(s) {
		check(s.End, l.stack.Float(s.Label.Text, e[0], e[1]))
		l.keep(api.Hyp{Label: s.Label.Text, Floating: true, Var: e[1], Expr: e})
	}
}

func (l *loader) ess(s api.Stmt) {
	e := l.expression(s.Words)
	if ended(s) {
		check(s.End, l.stack.Ess(s.Label.Text, e))
		l.keep(api.Hyp{Label: s.Label.Text, Var: -1, Expr: e})
	}
}

func (l *loader) keep(h api.Hyp) {
	l.base.hypAt[h.Label] = len(l.base.hyps)
	l.base.hyps = append(l.base.hyps, h)
}

func (l *loader) assert(s api.Stmt) {
	goal := l.expression(s.Words)
	if !ended(s) {
		return
	}
	need, code := l.stack.Frame(goal)
	check(s.End, code)
	scope := l.stack.Scope()
	l.base.assertedAt[s.Label.Text] = l.base.Count()
	l.base.assertions = append(l.base.assertions, assertion{
		label:   s.Label,
		theorem: s.Kind == api.StTheorem,
		goal:    goal,
		needed:  l.base.placesOf(need.Hyps),
		apart:   need.Pairs,
		active:  l.base.placesOf(scope.Hyps),
		pairs:   scope.Pairs,
		proof:   s.Proof,
		end:     s.End,
	})
}

// expression reads the words of a hypothesis or a goal.
func (l *loader) expression(words []api.Token) api.Expr {
	var e api.Expr
	for i, word := range words {
		if i >= api.MaxExpr {
			giveUp(word, api.ErrTooLong)
		}
		if i == 0 {
			e = append(e, l.constant(word))
		} else {
			e = append(e, l.typed(word))
		}
	}
	return e
}

// symbol gives the number of an active symbol.
func (l *loader) symbol(word api.Token) int {
	n, active := l.table.Find(word.Text)
	if !active {
		giveUp(word, api.ErrSymbol)
	}
	return n
}

// constant gives the number of an active constant.
func (l *loader) constant(word api.Token) int {
	n := l.symbol(word)
	if l.table.IsVar(n) {
		giveUp(word, api.ErrType)
	}
	return n
}

// variable gives the number of an active variable.
func (l *loader) variable(word api.Token) int {
	n := l.symbol(word)
	if !l.table.IsVar(n) {
		giveUp(word, api.ErrVar)
	}
	return n
}

// untyped gives the number of an active variable that has no type.
func (l *loader) untyped(word api.Token) int {
	v := l.variable(word)
	if _, has := l.stack.Type(v); has {
		giveUp(word, api.ErrFloat)
	}
	return v
}

// typed gives the number of an active symbol, which has a type if it is a variable.
func (l *loader) typed(word api.Token) int {
	n := l.symbol(word)
	if _, has := l.stack.Type(n); !has && l.table.IsVar(n) {
		giveUp(word, api.ErrFloat)
	}
	return n
}

// ended tells whether a statement's end is there: if it is broken off, it declares nothing.
func ended(s api.Stmt) bool { return s.End.Text != "" }
