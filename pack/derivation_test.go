package pack

import (
	"slices"
	"strings"
	"testing"

	"lemma/api"
	"lemma/base"
	"lemma/stack"
)

// derivation is a tree of labels (R8), with what it proves.
type derivation struct {
	label  string
	parts  []*derivation
	proves api.Expr
}

// labels gives them parts first.
func (d *derivation) labels() []string {
	var all []string
	for _, part := range d.parts {
		all = append(all, part.labels()...)
	}
	return append(all, d.label)
}

// parts tells of a label that may be a step how many parts its node has, and whether it is an assertion's.
func parts(b *base.Base, c api.Context, label string) (int, bool) {
	if slices.ContainsFunc(c.Hyps, func(h api.Hyp) bool { return h.Label == label }) {
		return 0, false
	}
	n, _ := b.Find(label)
	a, _ := b.At(n)
	return len(a.Frame.Hyps), true
}

// treeOf reads labels from the back: the last is the root, each part takes the labels that it needs. False: they are not just one derivation.
func treeOf(b *base.Base, c api.Context, labels []string) (*derivation, bool) {
	left := slices.Clone(labels)
	d, whole := takeTree(b, c, &left)
	return d, whole && len(left) == 0
}

func takeTree(b *base.Base, c api.Context, left *[]string) (*derivation, bool) {
	if len(*left) == 0 {
		return nil, false
	}
	d := &derivation{label: (*left)[len(*left)-1]}
	*left = (*left)[:len(*left)-1]
	for _, h := range c.Hyps {
		if h.Label == d.label {
			d.proves = h.Expr
			return d, true
		}
	}
	n, _ := b.Find(d.label)
	a, _ := b.At(n)
	last := make([]api.Expr, len(a.Frame.Hyps))
	for i := range last {
		part, whole := takeTree(b, c, left)
		if !whole {
			return nil, false
		}
		last[len(last)-1-i] = part.proves
	}
	made, code := conclude(a.Frame, last, c.Pairs, b.IsVar)
	d.proves = made
	return d, code == api.OK && n < c.Before
}

// unfolded gives the labels of the codes of a run that is OK, every back reference by the labels of the part that it calls back; and how many codes name an assertion.
func unfolded(b *base.Base, c api.Context, p api.Proof) ([]string, int) {
	names := Names(c, p)
	var made, saved [][]string
	asserted := 0
	for _, told := range p.Codes {
		switch n := told.N; {
		case n == api.CodeSave:
			saved = append(saved, made[len(made)-1])
		case n >= len(names):
			made = append(made, saved[n-len(names)])
		default:
			count, is := parts(b, c, names[n])
			if is {
				asserted++
			}
			at := len(made) - count
			made = append(made[:at:at], append(slices.Concat(made[at:]...), names[n]))
		}
	}
	return slices.Concat(made...), asserted
}

// denotes holds what P12.2 says of a run that is OK: its unfolded labels are a derivation of the goal, and Count is as many codes as name an assertion.
func denotes(t *testing.T, b *base.Base, c api.Context, p api.Proof, v api.Verdict) {
	t.Helper()
	labels, asserted := unfolded(b, c, p)
	d, whole := treeOf(b, c, labels)
	if !whole || !slices.Equal(d.proves, c.Goal) {
		t.Fatalf("P12.2: %v is OK, but %v is no derivation of %v", p, labels, c.Goal)
	}
	if v.Count != asserted {
		t.Fatalf("P12.2: %v: Count %d, but %d codes name an assertion", p, v.Count, asserted)
	}
	if w := stack.Run(b, c, api.Proof{Form: api.FormPlain, Labels: placed(labels...), End: behind}); w.Code != api.OK && w.Code != api.ErrDeep {
		t.Fatalf("P12.2: %v is OK, but the plain proof %v is %v", p, labels, w)
	}
}

// P12.2: of all short lists of codes those that leave one entry, which is then the goal.
func TestShortRunsAreDerivations(t *testing.T) {
	b := loaded(t, growing)
	c := contextOf(t, b, "t")
	words := []string{"cat", "wx", "far", "wa"}
	known := len(c.Mandatory) + len(words)
	accepted, called := 0, 0
	for _, codes := range shortLists(6, 0, 1, 2, 3, known, known+1, api.CodeSave) {
		p := api.Proof{Form: api.FormPacked, Labels: placed(words...), Codes: coded(codes...), End: behind}
		m := &model{b: b, c: c}
		if v := m.follow(p); v.Code == api.ErrGoal {
			c.Goal = m.entries[0]
		}
		v := Run(b, c, p)
		if v.Code != api.OK {
			continue
		}
		denotes(t, b, c, p, v)
		accepted++
		if slices.Max(codes) >= known {
			called++
		}
	}
	if accepted < 400 || called < 90 {
		t.Errorf("%d are OK, %d with a back reference: they are hardly tried", accepted, called)
	}
}

// logic is a text of short strings, in which much can be proved.
const logic = `$c w p a $. $v x y z $. wx $f w x $. wy $f w y $. wz $f w z $.
wa $a w a $.
wn $a w $.
ww $a w x y $.
pa $a p x a $.
${ hx $e p x $. hy $e p y $. join $a p x y $. $}
${ hz $e p z x $. swap $a p x z $. $}
${ $d x y $. hd $e p x $. apart $a p y $. $}
${ $d x y $. $d x z $. e1 $e p x $. here $p p x $= ? $. $}`

// grown gives derivations in a context, made by a rule of hypotheses and of assertions with parts that were made before.
func grown(b *base.Base, c api.Context, r *rule) []*derivation {
	var pool []*derivation
	met := map[string]bool{}
	for _, h := range c.Hyps {
		pool = append(pool, &derivation{label: h.Label, proves: h.Expr})
	}
	for tries := 0; tries < 40000 && len(pool) < 800; tries++ {
		a, _ := b.At(r.below(c.Before))
		d := &derivation{label: a.Label}
		var last []api.Expr
		put := map[int]api.Expr{}
		for _, h := range a.Frame.Hyps {
			part := fittingPart(pool, h, put, r)
			d.parts = append(d.parts, part)
			last = append(last, part.proves)
		}
		made, code := conclude(a.Frame, last, c.Pairs, b.IsVar)
		text := strings.Join(d.labels(), " ")
		if code == api.OK && len(made) < 6 && len(text) < 2000 && !met[text] {
			d.proves, met[text] = made, true
			pool = append(pool, d)
		}
	}
	return pool
}

// fittingPart picks a derivation of what a hypothesis asks for, where there is one; the strings of the floating ones are noted in put.
func fittingPart(pool []*derivation, h api.Hyp, put map[int]api.Expr, r *rule) *derivation {
	var fitting []*derivation
	for _, d := range pool {
		if h.Floating && d.proves[0] == h.Expr[0] || !h.Floating && slices.Equal(d.proves, formed(h.Expr, put)) {
			fitting = append(fitting, d)
		}
	}
	if len(fitting) == 0 {
		return one(r, pool)
	}
	part := one(r, fitting)
	if h.Floating {
		put[h.Var] = part.proves[1:]
	}
	return part
}

// writer writes a derivation as codes, saving parts and calling them back by a rule, and counts along.
type writer struct {
	names   []string
	saved   map[string]int // by the labels of a part: the number that calls it back
	saves   int
	codes   []int
	applied int
	lying   int
	peak    int
}

func (w *writer) lay(n, taken int) {
	w.codes = append(w.codes, n)
	w.lying += 1 - taken
	w.peak = max(w.peak, w.lying)
}

func (w *writer) write(d *derivation, r *rule) {
	text := strings.Join(d.labels(), " ")
	n, there := w.saved[text]
	if there && r.below(4) > 0 {
		w.lay(n, 0)
	} else {
		for _, part := range d.parts {
			w.write(part, r)
		}
		at := slices.Index(w.names, d.label)
		w.lay(at, len(d.parts))
		if len(d.parts) > 0 || d.label == "wa" || d.label == "wn" {
			w.applied++
		}
	}
	if r.below(4) == 0 {
		w.codes = append(w.codes, api.CodeSave)
		w.saved[text] = len(w.names) + w.saves
		w.saves++
	}
}

// written gives packed proofs of derivations, each with its context and with the verdict that it is to have.
func written(t *testing.T, b *base.Base, tell func(api.Context, api.Proof, api.Verdict)) {
	t.Helper()
	r := rule(9)
	c, _ := b.Behind(b.Count()-1, nil)
	for _, d := range grown(b, c, &r) {
		c, _ := b.Behind(b.Count()-1, d.proves)
		words := slices.DeleteFunc([]string{"ww", "wz", "apart", "swap", "here", "wa", "wx", "wn", "wy", "pa", "join"}, func(word string) bool { return isMandatory(c, word) })
		p := api.Proof{Form: api.FormPacked, Labels: placed(words...), End: behind}
		w := &writer{names: Names(c, p), saved: map[string]int{}}
		w.write(d, &r)
		p.Codes = coded(w.codes...)
		tell(c, p, api.Verdict{Count: w.applied, Peak: w.peak})
	}
}

// P12.2: derivations written with saves and back references run to what they prove; wrong codes in them do not hide.
func TestDerivations(t *testing.T) {
	b := loaded(t, logic)
	r := rule(10)
	most, called, changed := 0, 0, 0
	written(t, b, func(c api.Context, p api.Proof, want api.Verdict) {
		v := Run(b, c, p)
		if v != want {
			t.Fatalf("P12.2: %v in %v: %v, want %v", p, c, v, want)
		}
		denotes(t, b, c, p, v)
		known := len(Names(c, p))
		most = max(most, len(p.Codes))
		called += len(p.Codes) - len(slices.DeleteFunc(slices.Clone(p.Codes), func(told api.Code) bool { return told.N >= known }))
		for range 5 {
			p.Codes[r.below(len(p.Codes))].N = r.below(known+4) - 1
			if v := Run(b, c, p); v != follow(b, c, p) {
				t.Fatalf("P12.1: %v in %v: %v, want %v", p, c, v, follow(b, c, p))
			} else if v.Code == api.OK {
				denotes(t, b, c, p, v)
				changed++
			}
		}
	})
	if most < 50 || called < 500 || changed < 20 {
		t.Errorf("the longest has %d codes, %d are back references, %d are OK though changed: they are hardly tried", most, called, changed)
	}
}

// P12.2: saved steps apply nothing, however much they stand for: a proof of few codes whose derivation is too big to be written out.
func TestBigDerivation(t *testing.T) {
	b := loaded(t, "$c w $. ${ h $e w $. g $e w $. two $a w $. $} one $a w $. t $p w $= ? $.")
	c := contextOf(t, b, "t")
	codes := []int{1, api.CodeSave}
	for n := range 1000 {
		codes = append(codes, 2+n, 0, api.CodeSave)
	}
	p := api.Proof{Form: api.FormPacked, Labels: placed("two", "one"), Codes: coded(codes...), End: behind}
	if v := Run(b, c, p); v != (api.Verdict{Count: 1001, Peak: 2}) {
		t.Errorf("P12.2: a derivation of 2^1001 labels: %v", v)
	}
}
