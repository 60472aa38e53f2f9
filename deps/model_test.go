package deps

import (
	"fmt"
	"maps"
	"slices"
	"strings"
	"testing"

	"lemma/api"
	"lemma/base"
	"lemma/proof"
	"lemma/unfold"
	"lemma/verify"
)

// marks is a set of the second reading: the places of assertions.
type marks map[int]bool

// item is an assertion of a theory in one string: how many hypotheses it has, and a theorem's proof.
type item struct {
	label   string
	takes   int
	theorem bool
	words   []string
}

// theory is a text in one string, where whatever leaves one entry proves a theorem. Each item has hypotheses of its own.
type theory []item

// hypOf gives the label of an item's hypothesis.
func hypOf(label string, i int) string { return label + "-" + string(rune('x'+i)) }

func (it item) text() string {
	text := "${ "
	for i := range it.takes {
		text += hypOf(it.label, i) + " $e w $. "
	}
	if it.theorem {
		return text + it.label + " $p w $= " + strings.Join(it.words, " ") + " $. $}\n"
	}
	return text + it.label + " $a w $. $}\n"
}

func (th theory) text() string {
	text := "$c w $.\n"
	for _, it := range th {
		text += it.text()
	}
	return text
}

// place gives an item's place by its label, below 0 for none.
func (th theory) place(label string) int {
	return slices.IndexFunc(th, func(it item) bool { return it.label == label })
}

// named is a second reading of P17.2.
func (th theory) named(n int) []string {
	words := th[n].words
	if len(words) > 0 && words[0] == "(" {
		words = words[1:]
		if end := slices.Index(words, ")"); end >= 0 {
			words = words[:end]
		}
	}
	var named []string
	for i, word := range words {
		if word != "?" && slices.Index(words, word) == i {
			named = append(named, word)
		}
	}
	return named
}

// reading is a second reading of what a proved theorem cites, from its words, letter by letter: no nodes, each entry carries what stands in its derivation.
type reading struct {
	th      theory
	names   []string
	entries []marks
	saved   []marks
}

// cited is a second reading of P17.1, of a proved theorem.
func (th theory) cited(n int) marks {
	r := &reading{th: th}
	words := th[n].words
	if words[0] != "(" {
		for _, word := range words {
			r.label(word)
		}
		return r.entries[0]
	}
	for i := range th[n].takes {
		r.names = append(r.names, hypOf(th[n].label, i))
	}
	for words = words[1:]; words[0] != ")"; words = words[1:] {
		r.names = append(r.names, words[0])
	}
	number := 0
	for _, letter := range []byte(strings.Join(words[1:], "")) {
		number = r.letter(letter, number)
	}
	return r.entries[0]
}

// letter takes a letter, behind a number's first digits, and gives these digits for the next one.
func (r *reading) letter(letter byte, ahead int) int {
	switch n := ahead*20 + int(letter-'A'); {
	case letter == 'Z':
		r.saved = append(r.saved, r.entries[len(r.entries)-1])
	case letter >= 'U':
		return ahead*5 + int(letter-'U') + 1
	case n < len(r.names):
		r.label(r.names[n])
	default:
		r.entries = append(r.entries, r.saved[n-len(r.names)])
	}
	return 0
}

// label takes the parts of a label off the entries and lays the whole on them.
func (r *reading) label(label string) {
	made := marks{}
	at := len(r.entries)
	if k := r.th.place(label); k >= 0 {
		made[k] = true
		at -= r.th[k].takes
	}
	for _, part := range r.entries[at:] {
		maps.Copy(made, part)
	}
	r.entries = append(r.entries[:at:at], made)
}

// model is a theory with its base: what is proved is told by verify.
type model struct {
	th     theory
	b      *base.Base
	proved []bool
}

func modelOf(t *testing.T, th theory) model {
	t.Helper()
	m := model{th: th, b: loaded(t, th.text())}
	for n := range th {
		v, code := verify.Theorem(m.b, n)
		m.proved = append(m.proved, code == api.OK && v.Code == api.OK)
	}
	return m
}

// rests is a second reading of the closure, by calls within calls from what is cited.
func (m model) rests(n int, met marks) {
	if !m.proved[n] {
		return
	}
	for k := range m.th.cited(n) {
		if !met[k] {
			met[k] = true
			m.rests(k, met)
		}
	}
}

// holds holds all calls about the number n against the second reading, and tells how it is: ErrNone, ErrUnproved (it is not proved, or what it rests on is not), or OK.
func (m model) holds(t *testing.T, n int) api.Errno {
	t.Helper()
	if !m.th[n].theorem {
		noTheorem(t, m.b, n)
		return api.ErrNone
	}
	namedIs(t, m.b, n, m.th.named(n)...)
	if !m.proved[n] {
		unproved(t, m.b, n)
		return api.ErrUnproved
	}
	citedIs(t, m.b, n, slices.Sorted(maps.Keys(m.th.cited(n)))...)
	met := marks{}
	m.rests(n, met)
	walk := slices.Sorted(maps.Keys(met))
	var axioms []int
	whole := true
	for _, k := range walk {
		if !m.th[k].theorem {
			axioms = append(axioms, k)
		} else if !m.proved[k] {
			whole = false
		}
	}
	slices.Reverse(walk)
	walkIs(t, m.b, n, walk...)
	if !whole {
		axiomsRefused(t, m.b, n, api.ErrUnproved)
		return api.ErrUnproved
	}
	axiomsAre(t, m.b, n, axioms...)
	return api.OK
}

// usersHold holds Users of all labels that are there, and of words that are none, against the second reading.
func (m model) usersHold(t *testing.T) {
	t.Helper()
	labels := []string{"?", "(", ")", "", "no"}
	for _, it := range m.th {
		labels = append(labels, it.label, hypOf(it.label, 0), hypOf(it.label, 1))
	}
	for _, label := range labels {
		var want []int
		for n := range m.th {
			if m.th[n].theorem && slices.Contains(m.th.named(n), label) {
				want = append(want, n)
			}
		}
		usersAre(t, m.b, label, want...)
	}
}

// ordered holds what P17.1 to P17.4 say of the order and of one another, by the calls of other layers alone, so of any base.
func ordered(t *testing.T, b *base.Base, n int) {
	t.Helper()
	cited, code := Cited(b, n)
	axioms, axiomsCode := Axioms(b, n)
	walk := slices.Collect(Walk(b, n))
	slices.Reverse(walk)
	for _, l := range [][]int{cited, axioms, walk} {
		for i, k := range l {
			if k < 0 || k >= n || i > 0 && k <= l[i-1] {
				t.Fatalf("P17.1, P17.3, P17.4: of the number %d: %v", n, l)
			}
		}
	}
	want := marks{}
	whole := code
	for _, k := range cited {
		want[k] = true
		for more := range Walk(b, k) {
			want[more] = true
		}
		if _, below := Axioms(b, k); below == api.ErrUnproved {
			whole = api.ErrUnproved
		}
	}
	if !slices.Equal(walk, slices.Sorted(maps.Keys(want))) || axiomsCode != whole {
		t.Fatalf("P17.3, P17.4: Walk(%d) is %v, Axioms tells %d, of what it cites %v, %d", n, walk, axiomsCode, want, whole)
	}
	if code == api.OK {
		nodesHold(t, b, n)
	}
}

// nodesHold holds, of a proved theorem that can be unfolded, that it cites just the assertions at its nodes, and names all of them but hypotheses that a packed proof counts.
func nodesHold(t *testing.T, b *base.Base, n int) {
	t.Helper()
	labels, code := unfold.Plain(b, n)
	if code != api.OK {
		return
	}
	cited, _ := Cited(b, n)
	named, _ := Named(b, n)
	a, _ := b.At(n)
	packed := proof.Parse(a.Proof, a.End).Form == api.FormPacked
	at := marks{}
	for _, label := range labels {
		if k, asserted := b.Find(label); asserted {
			at[k] = true
		}
		counted := packed && slices.ContainsFunc(a.Frame.Hyps, func(h api.Hyp) bool { return h.Label == label })
		if !counted && !slices.Contains(named, label) {
			t.Fatalf("P17.2: the proof of %s has %s at a node, and names %q", a.Label, label, named)
		}
	}
	if !slices.Equal(cited, slices.Sorted(maps.Keys(at))) {
		t.Fatalf("P17.1: %s cites %v, at its nodes are %v", a.Label, cited, at)
	}
}

// theoryHolds holds a whole theory, and counts how its numbers are.
func theoryHolds(t *testing.T, th theory, seen map[api.Errno]int) {
	t.Helper()
	m := modelOf(t, th)
	for n := range th {
		seen[m.holds(t, n)]++
		ordered(t, m.b, n)
	}
	m.usersHold(t)
}

// came holds each of the codes to have come often enough.
func came(t *testing.T, seen map[api.Errno]int, least int, codes ...api.Errno) {
	t.Helper()
	for _, code := range codes {
		if seen[code] < least {
			t.Errorf("the code %d came %d times: it is hardly tried", code, seen[code])
		}
	}
}

// first are the items ahead of those that are tried: axioms, theorems that rest on them, one that is not proved.
func first() theory {
	return theory{
		{label: "g"}, {label: "j", takes: 1}, {label: "d", takes: 2},
		{label: "p", theorem: true, words: strings.Fields("g j")},
		{label: "o", takes: 1, theorem: true, words: strings.Fields("o-x ? j")},
		{label: "q", takes: 1, theorem: true, words: strings.Fields("( p j d o ) AABD")},
	}
}

// batches lays proofs in theories behind the first items, so many theorems with this many hypotheses to each; the word h is the theorem's own first hypothesis.
func batches(takes int, proofs [][]string) []theory {
	var all []theory
	for batch := range slices.Chunk(proofs, 40) {
		th := first()
		for i, words := range batch {
			it := item{label: fmt.Sprint("t", i), takes: takes, theorem: true}
			for _, word := range words {
				if word == "h" {
					word = hypOf(it.label, 0)
				}
				it.words = append(it.words, word)
			}
			th = append(th, it)
		}
		all = append(all, th)
	}
	return all
}

// shortLists gives every list of at most so many items.
func shortLists[T any](most int, items ...T) [][]T {
	all := [][]T{nil}
	for from := 0; len(all[from]) < most; from++ {
		for _, item := range items {
			all = append(all, append(slices.Clone(all[from]), item))
		}
	}
	return all
}

// P17.1 to P17.5: all short plain proofs, proved or not.
func TestShortPlain(t *testing.T) {
	seen := map[api.Errno]int{}
	for _, th := range batches(1, shortLists(4, "g", "j", "d", "o", "q", "h", "?")) {
		theoryHolds(t, th, seen)
	}
	came(t, seen, 60, api.OK, api.ErrUnproved)
}

// P17.1 to P17.5: all short packed proofs with these brackets, proved or not.
func TestShortPacked(t *testing.T) {
	seen := map[api.Errno]int{}
	for _, list := range []string{"( g d q )", "( o d g )", "( p )", "( q t0 )", "( g g )"} {
		var proofs [][]string
		for _, letters := range shortLists(4, "A", "B", "C", "D", "E", "Z") {
			proofs = append(proofs, append(strings.Fields(list), letters...))
		}
		for _, th := range batches(1, proofs) {
			theoryHolds(t, th, seen)
		}
	}
	came(t, seen, 60, api.OK, api.ErrUnproved)
}

// P17.1 to P17.5: all short beginnings, where brackets do not end or stand twice.
func TestShortBrackets(t *testing.T) {
	seen := map[api.Errno]int{}
	for _, th := range batches(0, shortLists(4, "(", ")", "g", "?", "A", "no")) {
		theoryHolds(t, th, seen)
	}
	came(t, seen, 10, api.OK, api.ErrUnproved)
}

// rule makes numbers by a fixed rule, the same in every run.
type rule uint64

func (r *rule) below(n int) int {
	*r = *r*6364136223846793005 + 1442695040888963407
	return int(uint64(*r)>>33) % n
}

// codes makes codes whose numbers take so many entries each and that leave one entry; the number two takes two. Now and then a step is saved and called back.
func (r *rule) codes(takes []int, two, steps int) []int {
	var codes []int
	now, saves := 0, 0
	for len(codes) < steps || now != 1 {
		n := r.below(len(takes))
		switch {
		case len(codes) >= steps && now > 1:
			codes = append(codes, two)
			now--
		case saves > 0 && now < 5 && r.below(4) == 0:
			codes = append(codes, len(takes)+r.below(saves))
			now++
		case takes[n] <= now && now-takes[n] < 5:
			codes = append(codes, n)
			now += 1 - takes[n]
		default:
			continue
		}
		if r.below(5) == 0 {
			codes = append(codes, api.CodeSave)
			saves++
		}
	}
	return codes
}

// labelsBelow picks some labels of a theory, d among them, in any order.
func (r *rule) labelsBelow(th theory) []string {
	labels := []string{"d", "g"}
	for _, it := range th {
		if it.label != "d" && it.label != "g" && r.below(3) == 0 {
			labels = append(labels, it.label)
		}
	}
	for i := range labels {
		k := r.below(i + 1)
		labels[i], labels[k] = labels[k], labels[i]
	}
	return labels
}

// proved makes a proof of the next theorem: plain, or packed with labels in the brackets that perhaps no letter calls.
func (r *rule) proved(th theory, it item) []string {
	labels := r.labelsBelow(th)
	var names []string
	var takes []int
	for i := range it.takes {
		names, takes = append(names, hypOf(it.label, i)), append(takes, 0)
	}
	for _, label := range labels {
		names, takes = append(names, label), append(takes, th[th.place(label)].takes)
	}
	codes := r.codes(takes, slices.Index(names, "d"), 1+r.below(14))
	if r.below(2) == 0 {
		text, _ := proof.Packed(labels, codes)
		return strings.Fields(text)
	}
	return plainOf(names, takes, codes)
}

// plainOf writes codes out: every saved step by the labels of the part that it calls back.
func plainOf(names []string, takes []int, codes []int) []string {
	var entries, saved [][]string
	for _, n := range codes {
		switch {
		case n == api.CodeSave:
			saved = append(saved, entries[len(entries)-1])
		case n >= len(names):
			entries = append(entries, saved[n-len(names)])
		default:
			at := len(entries) - takes[n]
			made := append(slices.Concat(entries[at:]...), names[n])
			entries = append(entries[:at:at], made)
		}
	}
	return entries[0]
}

// spoilt makes a proof one that is perhaps none.
func (r *rule) spoilt(words []string) []string {
	at := r.below(len(words))
	switch word := []string{"?", "no", "(", ")", "t3", "t9", "d"}[r.below(7)]; r.below(4) {
	case 0:
		return slices.Insert(words, at, word)
	case 1:
		words[at] = word
		return words
	case 2:
		return words[:at]
	default:
		return slices.Delete(words, at, at+1)
	}
}

// theory makes a theory of so many items behind the first axioms; of so many theorems one is spoilt.
func (r *rule) theory(many, oneOf int) theory {
	th := theory{{label: "g"}, {label: "j", takes: 1}, {label: "d", takes: 2}}
	for n := range many {
		it := item{label: fmt.Sprint("t", n), takes: r.below(3), theorem: r.below(4) > 0}
		if it.theorem {
			it.words = r.proved(th, it)
			if r.below(oneOf) == 0 {
				it.words = r.spoilt(it.words)
			}
		}
		th = append(th, it)
	}
	return th
}

// P17.1 to P17.5: theories by a rule, in which theorems cite theorems, some of them not proved.
func TestTheories(t *testing.T) {
	r, seen := rule(17), map[api.Errno]int{}
	for try := range 250 {
		theoryHolds(t, r.theory(5+r.below(25), []int{2, 6, 20}[try%3]), seen)
	}
	came(t, seen, 500, api.OK, api.ErrUnproved, api.ErrNone)
}

// logic is chapter 8's text, with its theorem's proof in both forms, and theorems that rest on it.
const logic = `$c ( ) -> wff |- $. $v p q r $. wp $f wff p $. wq $f wff q $. wr $f wff r $.
wi $a wff ( p -> q ) $. a1 $a |- ( p -> ( q -> p ) ) $. a2 $a |- ( ( p -> ( q -> r ) ) -> ( ( p -> q ) -> ( p -> r ) ) ) $.
${ mn $e |- p $. mj $e |- ( p -> q ) $. mp $a |- q $. $} a3 $a |- ( p -> p ) $.
id $p |- ( p -> p ) $= wp wp wp wi wi wp wp wi wp wp a1 wp wp wp wi wp wi wi wp wp wp wi wi wp wp wi wi wp wp wp wi a1 wp wp wp wi wp a2 mp mp $.
same $p |- ( p -> p ) $= ( wi a1 a2 mp wq ) AAABZBGAACAGABBAGBGBAGCAGADEE $.
by $p |- ( q -> q ) $= ( same id a3 wp ) AC $.
${ h $e |- p $. add $p |- ( q -> p ) $= wp wq wp wi h wp wq a1 mp $. $}
all $p |- ( r -> ( q -> q ) ) $= ( wi by same add ) AACBADF $.`

// P17.1 to P17.4: a logic with substitutions: types' derivations are parts as well; hypotheses are cited nowhere.
func TestLogic(t *testing.T) {
	b := loaded(t, logic)
	for n := range b.Count() {
		if v, code := verify.Theorem(b, n); code == api.OK && v.Code != api.OK {
			t.Errorf("%s: %v", v.Label, v)
		}
		ordered(t, b, n)
	}
	citedIs(t, b, 5, 0, 1, 2, 3)
	namedIs(t, b, 5, "wp", "wi", "a1", "a2", "mp")
	citedIs(t, b, 6, 0, 1, 2, 3)
	namedIs(t, b, 6, "wi", "a1", "a2", "mp", "wq")
	citedIs(t, b, 9, 0, 7, 8)
	namedIs(t, b, 9, "wi", "by", "same", "add")
	walkIs(t, b, 9, 8, 7, 5, 3, 2, 1, 0)
	axiomsAre(t, b, 9, 0, 1, 2, 3)
	usersAre(t, b, "same", 7, 9)
	usersAre(t, b, "wq", 6, 8)
}
