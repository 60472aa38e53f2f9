package syntax

import (
	"cmp"
	"slices"
	"strings"
	"testing"

	"lemma/base"
)

// A tree is a derivation as the chapter has it.
type tree struct {
	leaf    bool
	label   string
	number  int     // among leaves, or among rules
	parts   []*tree // in the order of the goal's variables
	kids    []*tree // in the order of the hypotheses
	words   string  // what it derives
	size    int
	strings []int // how long the variables' strings are
}

// compare is the chapter's order of derivations of one expression; of two of one size it is held to.
func (x *tree) compare(y *tree) int {
	switch {
	case x.size != y.size:
		return cmp.Compare(x.size, y.size)
	case x.leaf != y.leaf && x.leaf:
		return -1
	case x.leaf != y.leaf:
		return 1
	case x.number != y.number:
		return cmp.Compare(x.number, y.number)
	}
	if c := slices.Compare(x.strings, y.strings); c != 0 {
		return c
	}
	for i := range x.parts {
		if c := x.parts[i].compare(y.parts[i]); c != 0 {
			return c
		}
	}
	return 0
}

func (x *tree) labels() []string {
	var l []string
	for _, kid := range x.kids {
		l = append(l, kid.labels()...)
	}
	return append(l, x.label)
}

// node makes a tree of a rule and of what stands for its goal's variables.
func (a axiom) node(th *theory, number int, parts []*tree) *tree {
	x := &tree{label: a.label, number: number, parts: slices.Clone(parts), size: 1}
	words := []string{a.kind}
	of := map[string]*tree{}
	for _, word := range a.goal {
		if th.types[word] == "" {
			words = append(words, word)
			continue
		}
		of[word] = parts[len(of)]
		put := strings.Fields(of[word].words)[1:]
		words = append(words, put...)
		x.strings = append(x.strings, len(put))
		x.size += of[word].size
	}
	for _, v := range a.hyps {
		x.kids = append(x.kids, of[v])
	}
	x.words = strings.Join(words, " ")
	return x
}

// kinds gives the types of a goal's variables, from the left.
func (a axiom) kinds(th *theory) []string {
	var l []string
	for _, word := range a.goal {
		if th.types[word] != "" {
			l = append(l, th.types[word])
		}
	}
	return l
}

// grow makes all derivations of up to so many labels; nil, if they are too many.
func (th *theory) grow(most int) []*tree {
	bySize := make([][]*tree, most+1)
	for n, l := range th.leaves {
		bySize[1] = append(bySize[1], &tree{leaf: true, label: l.label, number: n, words: l.words, size: 1})
	}
	for size := 1; size <= most; size++ {
		for n, a := range th.rules {
			for _, parts := range combine(bySize, a.kinds(th), size-1) {
				bySize[size] = append(bySize[size], a.node(th, n, parts))
			}
			if len(bySize[size]) > 3000 {
				return nil
			}
		}
	}
	return slices.Concat(bySize...)
}

// combine gives all rows of trees of these types that have so many labels together.
func combine(bySize [][]*tree, kinds []string, labels int) [][]*tree {
	if len(kinds) == 0 {
		if labels > 0 {
			return nil
		}
		return [][]*tree{nil}
	}
	var all [][]*tree
	for size := 1; size <= labels; size++ {
		rests := combine(bySize, kinds[1:], labels-size)
		if len(rests) == 0 {
			continue
		}
		for _, x := range bySize[size] {
			if strings.Fields(x.words)[0] != kinds[0] {
				continue
			}
			for _, rest := range rests {
				all = append(all, append([]*tree{x}, rest...))
			}
		}
	}
	return all
}

// Ties are how often the order had to say which of two derivations of one size comes first, and by what.
type ties struct{ leaves, leafRule, rules, strings, parts int }

func (n *ties) add(x, y *tree) {
	switch {
	case x.leaf && y.leaf:
		n.leaves++
	case x.leaf:
		n.leafRule++
	case x.number != y.number:
		n.rules++
	case !slices.Equal(x.strings, y.strings):
		n.strings++
	default:
		n.parts++
	}
}

// 21.1 to 21.4: all derivations of up to so many labels, put in the chapter's order, against what is answered of what they derive.
func TestAllTrees(t *testing.T) {
	const most = 5
	r := row(21)
	var tied ties
	theories, expressions := 0, 0
	for theories < 500 {
		th := r.theory(1+r.below(5), 3)
		trees := th.grow(most)
		if trees == nil {
			continue
		}
		theories++
		derivations := map[string][]*tree{}
		for _, x := range trees {
			derivations[x.words] = append(derivations[x.words], x)
		}
		b := loaded(t, th.text)
		c := at(t, b, b.Count()-1)
		for words, all := range derivations {
			slices.SortFunc(all, (*tree).compare)
			got := says(t, b, c, read(b, words))
			if got.proof != strings.Join(all[0].labels(), " ") || got.ways < min(len(all), 257) {
				t.Fatalf("21.2: of %q: %+v, want %v, of %d derivations at least: %s", words, got, all[0].labels(), len(all), th.text)
			}
			if len(all) > 1 && all[1].size == all[0].size {
				tied.add(all[0], all[1])
			}
			expressions++
		}
		for range 30 {
			words := r.words(th, 4)
			got := says(t, b, c, read(b, words))
			if _, is := derivations[words]; !is && got.proof != "" && len(strings.Fields(got.proof)) <= most {
				t.Fatalf("21.4: of %q: %+v, which no tree is: %s", words, got, th.text)
			}
		}
	}
	if tied.leaves < 20 || tied.leafRule < 20 || tied.rules < 1000 || tied.strings < 1000 || tied.parts < 1000 {
		t.Errorf("in %d expressions too few ties: %+v", expressions, tied)
	}
}

// An item is an expression, by its words, with all that it is made of by one last label.
type item struct {
	words string
	ways  []way // leaves and rules in their order, of each rule the shorter string first
}

// A way is a leaf, or a rule with its parts, in the order of the goal's variables.
type way struct {
	leaf  string
	rule  int
	parts []string
}

// items gives what each part of an expression is made of, behind each type.
func (th *theory) items(e []string) map[string]item {
	all := map[string]item{}
	for from := range len(e) {
		for to := from + 1; to <= len(e); to++ {
			for _, kind := range th.kinds {
				put := e[from+1 : to]
				words := strings.Join(append([]string{kind}, put...), " ")
				all[words] = item{words, th.ways(kind, put)}
			}
		}
	}
	return all
}

func (th *theory) ways(kind string, put []string) []way {
	var l []way
	words := strings.Join(append([]string{kind}, put...), " ")
	for _, x := range th.leaves {
		if x.words == words {
			l = append(l, way{leaf: x.label})
		}
	}
	for n, a := range th.rules {
		if a.kind == kind {
			for _, parts := range th.cuts(a.goal, put) {
				l = append(l, way{rule: n, parts: parts})
			}
		}
	}
	return l
}

// cuts gives all ways in which a goal may be a string.
func (th *theory) cuts(goal, put []string) [][]string {
	if len(goal) == 0 {
		if len(put) > 0 {
			return nil
		}
		return [][]string{nil}
	}
	kind := th.types[goal[0]]
	if kind == "" {
		if len(put) == 0 || put[0] != goal[0] {
			return nil
		}
		return th.cuts(goal[1:], put[1:])
	}
	if len(goal) == 1 {
		return [][]string{{strings.Join(append([]string{kind}, put...), " ")}}
	}
	var all [][]string
	for n := range len(put) + 1 {
		for _, rest := range th.cuts(goal[1:], put[n:]) {
			all = append(all, append([]string{strings.Join(append([]string{kind}, put[:n]...), " ")}, rest...))
		}
	}
	return all
}

// settle finds numbers of all items by going over them, all at once, as long as one changes: those of derivations one deeper each time.
func settle(items map[string]item, number func(i item, of map[string]int) int) map[string]int {
	of := map[string]int{}
	for {
		next := map[string]int{}
		same := true
		for words, i := range items {
			next[words] = number(i, of)
			same = same && next[words] == of[words]
		}
		if same {
			return of
		}
		of = next
	}
}

// size is the least size of an item, by the sizes of what it is made of; 0: it has none.
func size(i item, of map[string]int) int {
	least := 0
	for _, w := range i.ways {
		n := 1
		for _, part := range w.parts {
			if of[part] == 0 {
				n = -1
				break
			}
			n += of[part]
		}
		if n > 0 && (least == 0 || n < least) {
			least = n
		}
	}
	return least
}

// count is how many derivations an item has, up to 257.
func count(i item, of map[string]int) int {
	sum := 0
	for _, w := range i.ways {
		n := 1
		for _, part := range w.parts {
			n = min(n*of[part], 257)
		}
		sum += n
	}
	return min(sum, 257)
}

// least gives the least derivation of an item, part by part.
func (th *theory) least(words string, items map[string]item, sizes map[string]int) *tree {
	for _, w := range items[words].ways {
		if w.leaf != "" {
			return &tree{leaf: true, label: w.leaf, words: words, size: 1}
		}
		n := 1
		for _, part := range w.parts {
			if sizes[part] == 0 {
				n = -1 << 40
			}
			n += sizes[part]
		}
		if n != sizes[words] {
			continue
		}
		var parts []*tree
		for _, part := range w.parts {
			parts = append(parts, th.least(part, items, sizes))
		}
		return th.rules[w.rule].node(th, w.rule, parts)
	}
	return nil
}

// cutsHold holds what is said of an expression against numbers that are found for all its parts at once, by all ways to cut them.
func cutsHold(t *testing.T, th *theory, b *base.Base, e []string) (sort int) {
	t.Helper()
	words := strings.Join(e, " ")
	items := th.items(e)
	sizes, counts := settle(items, size), settle(items, count)
	want := answer{ways: counts[words]}
	if sizes[words] > 0 {
		want.proof = strings.Join(th.least(words, items, sizes).labels(), " ")
	}
	if got := says(t, b, at(t, b, b.Count()-1), read(b, words)); got != want {
		t.Fatalf("21.1 to 21.3: of %q: %+v, want %+v: %s", words, got, want, th.text)
	}
	return sortOf(want.ways)
}

// 21.1 to 21.3: short expressions of all sorts, in theories of all sorts.
func TestAllCuts(t *testing.T) {
	r := row(2101)
	var sorts [5]int
	for range 1500 {
		th := r.theory(1+r.below(6), 4)
		b := loaded(t, th.text)
		for range 12 {
			e := strings.Fields(r.words(th, 5))
			if r.below(3) > 0 {
				kind := one(&r, th.kinds)
				e = append([]string{kind}, r.derived(th, kind, 1+r.below(4))...)
			}
			if len(e) <= 9 {
				sorts[cutsHold(t, th, b, e)]++
			}
		}
	}
	if slices.Min(sorts[:]) < 60 {
		t.Errorf("of some sort too few: %v", sorts)
	}
}

// 21.1 to 21.3: four types, and short rules that go from one to another and round.
func TestTypesCuts(t *testing.T) {
	r := row(2103)
	var sorts [5]int
	for range 1200 {
		th := r.theoryOf("t u v w", 3+r.below(10), 1+r.below(2))
		b := loaded(t, th.text)
		for range 12 {
			kind := one(&r, th.kinds)
			e := append([]string{kind}, r.derived(th, one(&r, th.kinds), r.below(4))...)
			if len(e) <= 4 {
				sorts[cutsHold(t, th, b, e)]++
			}
		}
	}
	if slices.Min(sorts[:]) < 20 {
		t.Errorf("of some sort too few: %v", sorts)
	}
}

// 21.1 to 21.3: long expressions, in theories with few rules.
func TestLongCuts(t *testing.T) {
	r := row(2102)
	var sorts [5]int
	for n := 0; n < 150; {
		th := r.theory(2+r.below(3), 4)
		b := loaded(t, th.text)
		for range 20 {
			kind := one(&r, th.kinds)
			e := append([]string{kind}, r.derived(th, kind, 3+r.below(9))...)
			if len(e) >= 12 && len(e) <= 32 {
				sorts[cutsHold(t, th, b, e)]++
				n++
				break
			}
		}
	}
	if sorts[0] < 20 || sorts[1]+sorts[2]+sorts[3] < 20 || sorts[4] < 20 {
		t.Errorf("of some sort too few: %v", sorts)
	}
}

func sortOf(ways int) int {
	switch {
	case ways < 2:
		return ways
	case ways < 10:
		return 2
	case ways < 257:
		return 3
	}
	return 4
}
