package base

import (
	"reflect"
	"slices"
	"strings"
	"testing"
	"unsafe"

	"lemma/api"
)

// rich is M with something of every kind behind it.
const rich = textM + "$d p q $. ${ $v s $. ws $f wff s $. $d p q r s $. e $e |- ( s -> p ) $. th $p |- ( s -> q ) $= wp ws ? $. $} la $a |- q $."

// spoil writes over a list and the room behind it.
func spoil[T any](l []T, with T) {
	l = l[:cap(l)]
	for i := range l {
		l[i] = with
	}
}

func spoilHyps(l []api.Hyp) {
	for _, h := range l {
		spoil(h.Expr, -99)
	}
	spoil(l, api.Hyp{Label: "spoilt", Floating: true, Var: -99})
}

func spoilContext(c api.Context) {
	spoilHyps(c.Hyps)
	spoilHyps(c.Mandatory)
	spoil(c.Pairs, api.Pair{A: -99, B: -98})
	spoil(c.Goal, -99)
}

func spoilAssertion(a api.Assertion) {
	spoilContext(api.Context{Hyps: a.Scope.Hyps, Pairs: a.Scope.Pairs, Mandatory: a.Frame.Hyps, Goal: a.Frame.Goal})
	spoil(a.Frame.Pairs, api.Pair{A: -99, B: -98})
	spoil(a.Proof, api.Token{Text: "spoilt"})
}

func spoilStmts(l []api.Stmt) {
	for _, s := range l {
		spoil(s.Words, api.Token{Text: "spoilt"})
		spoil(s.Proof, api.Token{Text: "spoilt"})
	}
	spoil(l, api.Stmt{Kind: 99})
}

// answers is what a base answers to every question of lists.
type answers struct {
	stmts      []api.Stmt
	assertions []api.Assertion
	contexts   []api.Context
	hyps       []api.Hyp
	read       api.Expr
	printed    string
}

func ask(b *Base) answers {
	x := answers{stmts: b.Stmts()}
	for n := range b.Count() {
		a, _ := b.At(n)
		c, _ := b.Context(n)
		d, _ := b.Behind(n, api.Expr{3, 5, 99})
		x.assertions = append(x.assertions, a)
		x.contexts = append(x.contexts, c, d)
	}
	for _, label := range strings.Fields("wp wq wr mn mj ws e") {
		h, _ := b.Hyp(label)
		x.hyps = append(x.hyps, h)
	}
	x.read, _ = b.Read(strings.Fields("wff p q"))
	x.printed = b.Print(api.Expr{3, 5, -1})
	return x
}

func (x answers) spoil() {
	spoilStmts(x.stmts)
	for _, a := range x.assertions {
		spoilAssertion(a)
	}
	for _, c := range x.contexts {
		spoilContext(c)
	}
	spoilHyps(x.hyps)
	spoil(x.read, -99)
}

// P8.8: what is told may be written over: the base and all that it told before answer the same.
func TestToldIsNew(t *testing.T) {
	b := loaded(t, rich)
	want := ask(loaded(t, rich))
	first, second := ask(b), ask(b)
	if !reflect.DeepEqual(first, want) || !reflect.DeepEqual(second, want) {
		t.Fatal("P8.8: two bases of one text tell two things")
	}
	first.spoil()
	if !reflect.DeepEqual(second, want) {
		t.Error("P8.8: an answer changed with another")
	}
	if third := ask(b); !reflect.DeepEqual(third, want) {
		t.Error("P8.8: the base changed with an answer")
	}
	if b.tell().String() != loaded(t, rich).tell().String() {
		t.Error("P8.8: the base tells something else")
	}
}

// P8.8: no list of an answer lies where another does, of the same answer or another.
func TestEachListItsOwn(t *testing.T) {
	b := loaded(t, rich)
	at := map[unsafe.Pointer]string{}
	note := func(name string, p unsafe.Pointer, size int) {
		if other, met := at[p]; met && size > 0 {
			t.Errorf("P8.8: %s lies where %s does", name, other)
		}
		at[p] = name
	}
	expr := func(name string, e api.Expr) { note(name, unsafe.Pointer(unsafe.SliceData(e)), len(e)) }
	hyps := func(name string, l []api.Hyp) {
		note(name, unsafe.Pointer(unsafe.SliceData(l)), len(l))
		for _, h := range l {
			expr(name+"' "+h.Label, h.Expr)
		}
	}
	pairs := func(name string, l []api.Pair) { note(name, unsafe.Pointer(unsafe.SliceData(l)), len(l)) }
	for _, x := range []answers{ask(b), ask(b)} {
		for _, a := range x.assertions {
			hyps("a frame's hypotheses", a.Frame.Hyps)
			hyps("a scope's hypotheses", a.Scope.Hyps)
			pairs("a frame's pairs", a.Frame.Pairs)
			pairs("a scope's pairs", a.Scope.Pairs)
			expr("a goal", a.Frame.Goal)
			note("a proof", unsafe.Pointer(unsafe.SliceData(a.Proof)), len(a.Proof))
		}
		for _, c := range x.contexts {
			hyps("a context's hypotheses", c.Hyps)
			hyps("a context's mandatory ones", c.Mandatory)
			pairs("a context's pairs", c.Pairs)
			expr("a context's goal", c.Goal)
		}
		for _, h := range x.hyps {
			expr("the hypothesis "+h.Label, h.Expr)
		}
	}
}

// P8.8: what is handed in is not changed, nor the room behind it, and not kept.
func TestHandedIn(t *testing.T) {
	b := loaded(t, rich)
	goal := []int{3, 6, 5, 77, 77, 77, 77, 77, 77, 77, 77}
	words := []string{"p", "q", "zz", "r"}
	c, code := b.Behind(5, goal[:3])
	e, _ := b.Read(words[:2])
	b.Read(words[:3])
	b.Print(goal[:4])
	if !slices.Equal(goal[:4], []int{3, 6, 5, 77}) || goal[10] != 77 || !slices.Equal(words, strings.Fields("p q zz r")) {
		t.Errorf("P8.8: handed in is %v, %v", goal, words)
	}
	if code != api.OK || labels(c.Mandatory) != "wp wq ws e" {
		t.Fatalf("P8.8: Behind(5): %d, %s", code, labels(c.Mandatory))
	}
	spoil(goal, -1)
	spoil(words, "spoilt")
	if !slices.Equal(c.Goal, api.Expr{3, 6, 5}) || !slices.Equal(e, api.Expr{5, 6}) {
		t.Errorf("P8.8: told were %v, %v", c.Goal, e)
	}
}

// P8.8: a text that is a piece of a longer one does not keep it.
func TestTextIsCopied(t *testing.T) {
	long := strings.Repeat("$c x $. ", 100)
	text := long[8:15]
	b := loaded(t, text)
	if b.Text() != text || unsafe.StringData(b.Text()) == unsafe.StringData(text) {
		t.Error("P8.8: the text lies in the caller's memory")
	}
	_, f := Load(long[:30])
	if lies(f.Text, long) || lies(b.Name(0), long) || lies(b.Stmts()[0].Words[0].Text, long) {
		t.Error("P8.8: a word lies in the caller's text")
	}
}

// lies tells whether a word lies in a text's memory.
func lies(word, text string) bool {
	from := uintptr(unsafe.Pointer(unsafe.StringData(text)))
	p := uintptr(unsafe.Pointer(unsafe.StringData(word)))
	return p >= from && p < from+uintptr(len(text))
}

// P8.8, R13: asked by many at a time, a base answers as ever.
func TestManyAsk(t *testing.T) {
	b := loaded(t, rich)
	want := ask(b)
	same := make(chan bool)
	for range 8 {
		go func() {
			x := ask(b)
			ok := reflect.DeepEqual(x, want)
			x.spoil()
			same <- ok
		}()
	}
	for range 8 {
		if !<-same {
			t.Error("P8.8: another answer")
		}
	}
}
