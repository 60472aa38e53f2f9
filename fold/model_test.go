package fold

import (
	"math/big"
	"slices"
	"testing"

	"lemma/api"
	"lemma/tree"
)

// reading is a second reading of what the chapter says: every two nodes are held against each other, labels in brackets are looked for in the unfolded proof, and the tree is gone through by calls within calls.
type reading struct {
	l      []api.Node
	first  map[int]int // of each node that the root leads to the first with an equal tree
	places map[int]int // of each such first one
	names  []string    // what numbers mean, ahead of the saves
	saved  []int
	codes  []int
}

// readOf reads nodes; false: ErrTree.
func readOf(c api.Context, l []api.Node) (*reading, bool) {
	r := &reading{l: l, first: map[int]int{}, places: map[int]int{}}
	if len(l) == 0 || !r.lead(len(l)-1) {
		return nil, false
	}
	for n := range r.first {
		for _, kid := range l[n].Kids {
			if r.first[n] == n {
				r.places[r.first[kid]]++
			}
		}
	}
	for _, h := range c.Mandatory {
		r.names = append(r.names, h.Label)
	}
	r.list(len(l)-1, map[int]bool{})
	r.through(len(l) - 1)
	return r, true
}

// lead goes to a node and to all below it, and finds the first that is equal to it: all that are below it, and all that are ahead of it and were met, have been asked.
func (r *reading) lead(n int) bool {
	if _, met := r.first[n]; met {
		return true
	}
	for _, kid := range r.l[n].Kids {
		if kid < 0 || kid >= n || !r.lead(kid) {
			return false
		}
	}
	r.first[n] = n
	for earlier, is := range r.first {
		if earlier == is && earlier != n && r.equal(earlier, n) {
			r.first[n] = earlier
		}
	}
	return true
}

func (r *reading) equal(a, b int) bool {
	return r.l[a].Label == r.l[b].Label && slices.EqualFunc(r.l[a].Kids, r.l[b].Kids, func(i, k int) bool { return r.first[i] == r.first[k] })
}

// list puts labels into the brackets; of a node that was gone through all labels stand there already.
func (r *reading) list(n int, gone map[int]bool) {
	if gone[n] {
		return
	}
	gone[n] = true
	for _, kid := range r.l[n].Kids {
		r.list(kid, gone)
	}
	if !slices.Contains(r.names, r.l[n].Label) {
		r.names = append(r.names, r.l[n].Label)
	}
}

func (r *reading) isSaved(n int) bool {
	return len(r.l[n].Kids) > 0 && r.places[r.first[n]] >= 2
}

func (r *reading) through(n int) {
	if before := slices.Index(r.saved, r.first[n]); before >= 0 {
		r.codes = append(r.codes, len(r.names)+before)
		return
	}
	for _, kid := range r.l[n].Kids {
		r.through(kid)
	}
	r.codes = append(r.codes, slices.Index(r.names, r.l[n].Label))
	if r.isSaved(n) {
		r.codes = append(r.codes, api.CodeSave)
		r.saved = append(r.saved, r.first[n])
	}
}

// numbered tells how many codes there are by P16.3 that are no save and no back reference.
func (r *reading) numbered() int {
	many := 0
	for n, first := range r.first {
		if n != first {
			continue
		}
		if len(r.l[n].Kids) > 0 || n == len(r.l)-1 {
			many++
			continue
		}
		many += r.places[n]
	}
	return many
}

// holds holds Nodes against the second reading, and what P16.3 and P16.5 say of the codes; it tells the error.
func holds(t *testing.T, c api.Context, l []api.Node) api.Errno {
	t.Helper()
	listed, codes, code := Nodes(c, l)
	r, sound := readOf(c, l)
	if !sound || len(r.codes) > 4000 {
		want := api.ErrTree
		if sound {
			want = api.ErrSteps
		}
		if code != want || len(listed) != 0 || len(codes) != 0 {
			t.Fatalf("P16.1: Nodes(%s): %s, %s, %d, want %d", short(l), short(listed), short(codes), code, want)
		}
		return want
	}
	m := len(c.Mandatory)
	if code != api.OK || !slices.Equal(listed, r.names[m:]) || !slices.Equal(codes, r.codes) {
		t.Fatalf("P16.1: Nodes(%s): %s, %s, %d, want %s, %s", short(l), short(listed), short(codes), code, short(r.names[m:]), short(r.codes))
	}
	if !isLeast(codes, m+len(listed), r.numbered()) || len(listed) > len(l) {
		t.Fatalf("P16.3, P16.5: Nodes(%s): %s, %s", short(l), short(listed), short(codes))
	}
	return api.OK
}

// isLeast tells whether so many codes name a label, whether each save is called back, behind it, and none is the first code or stands behind another.
func isLeast(codes []int, names, numbered int) bool {
	called := []int{}
	for i, n := range codes {
		switch {
		case n == api.CodeSave && (i == 0 || codes[i-1] == api.CodeSave):
			return false
		case n == api.CodeSave:
			called = append(called, 0)
		case n < 0 || n >= names+len(called):
			return false
		case n >= names:
			called[n-names]++
		default:
			numbered--
		}
	}
	return numbered == 0 && !slices.Contains(called, 0)
}

// shortLists gives every list of at most so many items.
func shortLists[T any](most int, items ...T) [][]T {
	all := [][]T{nil}
	for from := 0; from < len(all) && len(all[from]) < most; from++ {
		for _, item := range items {
			all = append(all, append(slices.Clone(all[from]), item))
		}
	}
	return all
}

// upTo gives the numbers from 0 on, so many.
func upTo(n int) []int {
	var all []int
	for i := range n {
		all = append(all, i)
	}
	return all
}

// shortNodes gives every list of so many nodes, with one of two labels each and at most two kids, which are earlier nodes, or such a one's number that is none.
func shortNodes(many int, wrong ...int) [][]api.Node {
	all := [][]api.Node{nil}
	for n := range many {
		var longer [][]api.Node
		for _, l := range all {
			for _, kids := range shortLists(2, append(upTo(n), wrong...)...) {
				for _, label := range []string{"a", "b"} {
					longer = append(longer, append(slices.Clone(l), api.Node{Label: label, Kids: kids}))
				}
			}
		}
		all = longer
	}
	return all
}

// contexts are such as tell all that Nodes asks of one.
var contexts = []api.Context{{}, mandatory("a"), mandatory("x", "b"), mandatory("b", "a", "b"), mandatory("a", "a", "x")}

// came holds each of the codes to have come often enough.
func came(t *testing.T, seen map[api.Errno]int, least int, codes ...api.Errno) {
	t.Helper()
	for _, code := range codes {
		if seen[code] < least {
			t.Errorf("the code %d came %d times: it is hardly tried", code, seen[code])
		}
	}
}

// P16.1, P16.3, P16.5: all lists of at most four nodes in several contexts, and of five in one.
func TestShortNodes(t *testing.T) {
	seen := map[api.Errno]int{}
	for many := range 5 {
		for _, l := range shortNodes(many) {
			for _, c := range contexts {
				seen[holds(t, c, l)]++
			}
		}
	}
	for i, l := range shortNodes(5) {
		if i%3 == 0 {
			seen[holds(t, contexts[i%len(contexts)], l)]++
		}
	}
	came(t, seen, 5, api.OK, api.ErrTree)
}

// P16.1: all lists of at most three nodes with kids that are no earlier nodes.
func TestShortWrongNodes(t *testing.T) {
	seen := map[api.Errno]int{}
	for many := range 4 {
		for _, l := range shortNodes(many, -1, many-1, many) {
			seen[holds(t, contexts[0], l)]++
			seen[holds(t, contexts[3], l)]++
		}
	}
	came(t, seen, 1000, api.OK, api.ErrTree)
}

// rule makes numbers by a fixed rule, the same in every run.
type rule uint64

func (r *rule) below(n int) int {
	*r = *r*6364136223846793005 + 1442695040888963407
	return int(uint64(*r)>>33) % n
}

// kid gives a number of one of the last nodes, or now and then of any.
func (r *rule) kid(n int) int {
	if r.below(6) == 0 {
		return r.below(n)
	}
	return n - 1 - r.below(min(n, 4))
}

// nodes makes a list; a label has any number of kids. wrong: now and then a kid is none.
func (r *rule) nodes(many int, wrong bool) []api.Node {
	var l []api.Node
	for n := range many {
		node := api.Node{Label: string(rune('a' + r.below(5)))}
		for range r.below(4) {
			if n > 0 {
				node.Kids = append(node.Kids, r.kid(n))
			}
		}
		if wrong && r.below(30) == 0 {
			node.Kids = append(node.Kids, []int{-1, n, n + 1, many, -1 << 60}[r.below(5)])
		}
		l = append(l, node)
	}
	return l
}

// P16.1, P16.3, P16.5: long lists by a rule.
func TestLongByRule(t *testing.T) {
	r := rule(16)
	seen := map[api.Errno]int{}
	for try := range 3000 {
		l := r.nodes(1+r.below(60), try%3 == 0)
		seen[holds(t, contexts[r.below(len(contexts))], l)]++
	}
	came(t, seen, 100, api.OK, api.ErrTree)
}

// takes tells how many parts each of these labels has: so labels alone tell a tree.
var takes = map[string]int{"a": 0, "b": 0, "f": 1, "k": 1, "d": 2, "e": 2, "c": 3}

// fixed makes a list in which each label has its own number of kids.
func (r *rule) fixed(many int) []api.Node {
	labels := []string{"a", "b", "f", "k", "d", "e", "c", "d", "d", "c"}
	l := []api.Node{{Label: "a"}}
	for n := 1; n < many; n++ {
		node := api.Node{Label: labels[r.below(len(labels))]}
		for range takes[node.Label] {
			node.Kids = append(node.Kids, r.kid(n))
		}
		l = append(l, node)
	}
	return l
}

// word is a run of labels that may be too long to be written: how many they are, and what a reckoning from label to label has come to, by which two such runs are held against each other.
type word struct {
	many       *big.Int
	sum, power uint64
}

// prime is what sums are reckoned by: products stay below 2^62.
const prime = 1<<31 - 1

func labelWord(label string) word {
	return word{big.NewInt(1), uint64(label[0]), 1000003}
}

func (w word) with(behind word) word {
	return word{new(big.Int).Add(w.many, behind.many), (w.sum*behind.power + behind.sum) % prime, w.power * behind.power % prime}
}

func (w word) is(other word) bool { return w.many.Cmp(other.many) == 0 && w.sum == other.sum }

var noLabels = word{new(big.Int), 0, 1}

// wordOf gives the labels of the last node's derivation.
func wordOf(l []api.Node) word {
	var all []word
	for _, node := range l {
		made := noLabels
		for _, kid := range node.Kids {
			made = made.with(all[kid])
		}
		all = append(all, made.with(labelWord(node.Label)))
	}
	return all[len(all)-1]
}

// built gives nodes of brackets and codes, a back reference being the saved part's node.
func built(c api.Context, listed []string, codes []int) []api.Node {
	var l []api.Node
	var entries, saved []int
	m := len(c.Mandatory)
	for _, n := range codes {
		label := ""
		switch {
		case n == api.CodeSave:
			saved = append(saved, entries[len(entries)-1])
			continue
		case n >= m+len(listed):
			entries = append(entries, saved[n-m-len(listed)])
			continue
		case n >= m:
			label = listed[n-m]
		default:
			label = c.Mandatory[n].Label
		}
		at := len(entries) - takes[label]
		l = append(l, api.Node{Label: label, Kids: slices.Clone(entries[at:])})
		entries = append(entries[:at], len(l)-1)
	}
	return l
}

// unshared gives the last node's derivation with every part written out wherever it stands.
func unshared(l []api.Node, n int, all []api.Node) []api.Node {
	node := api.Node{Label: l[n].Label}
	for _, kid := range l[n].Kids {
		all = unshared(l, kid, all)
		node.Kids = append(node.Kids, len(all)-1)
	}
	return append(all, node)
}

// sameFold holds a list to be folded to these brackets and codes.
func sameFold(t *testing.T, what string, c api.Context, l []api.Node, listed []string, codes []int) {
	t.Helper()
	again, more, code := Nodes(c, l)
	if code != api.OK || !slices.Equal(again, listed) || !slices.Equal(more, codes) {
		t.Fatalf("%s: Nodes(%s): %s, %s, %d, want %s, %s", what, short(l), short(again), short(more), code, short(listed), short(codes))
	}
}

// P16.2, P16.3: what is folded, unfolded, is the unfolded derivation; folded again it is the same, whether the nodes were shared or not.
func TestNothingLost(t *testing.T) {
	r := rule(162)
	great, written := 0, 0
	seen := map[api.Errno]int{}
	for try := range 4000 {
		l := r.fixed(1 + r.below(10*(1+try%16)))
		c := []api.Context{{}, mandatory("a"), mandatory("x", "b", "a"), mandatory("d", "a", "d", "f")}[r.below(4)]
		seen[holds(t, c, l)]++
		listed, codes, _ := Nodes(c, l)
		folded := built(c, listed, codes)
		if !wordOf(folded).is(wordOf(l)) {
			t.Fatalf("P16.2: Nodes(%s): %s, %s: %v labels, want %v", short(l), short(listed), short(codes), wordOf(folded).many, wordOf(l).many)
		}
		sameFold(t, "P16.3, folded", c, folded, listed, codes)
		sameFold(t, "P16.3, shared", c, tree.Share(l), listed, codes)
		if tree.Size(l) > 2000 {
			great++
			continue
		}
		labels, _ := tree.Labels(l)
		again, small := tree.Labels(folded)
		if !small || !slices.Equal(again, labels) {
			t.Fatalf("P16.2: Nodes(%s): unfolded %s, want %s", short(l), short(again), short(labels))
		}
		sameFold(t, "P16.3, unshared", c, unshared(l, len(l)-1, nil), listed, codes)
		written++
	}
	if great < 200 || written < 200 || seen[api.OK] < 4000 {
		t.Errorf("%d were too great to be written, %d were not: hardly tried", great, written)
	}
}

// P16.1: the same derivation in other nodes: put in another order, each node written twice, others put between them.
func TestOtherNodes(t *testing.T) {
	r := rule(163)
	for range 1000 {
		l := r.fixed(1 + r.below(30))
		c := contexts[r.below(len(contexts))]
		listed, codes, code := Nodes(c, l)
		if code != api.OK {
			t.Fatalf("P16.1: Nodes(%s): %d", short(l), code)
		}
		sameFold(t, "P16.3, other nodes", c, r.spread(l), listed, codes)
	}
}

// spread writes each node down several times, with nodes between that do not belong, and lets each kid be any of those that are equal.
func (r *rule) spread(l []api.Node) []api.Node {
	var all []api.Node
	copies := make([][]int, len(l))
	for n, node := range l {
		for range 1 + r.below(3) {
			for range r.below(2) {
				all = append(all, api.Node{Label: "z", Kids: []int{r.below(9) - 4}})
			}
			twin := api.Node{Label: node.Label}
			for _, kid := range node.Kids {
				twin.Kids = append(twin.Kids, copies[kid][r.below(len(copies[kid]))])
			}
			copies[n] = append(copies[n], len(all))
			all = append(all, twin)
		}
	}
	return all
}
