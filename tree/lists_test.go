package tree

import (
	"math/big"
	"slices"
	"strings"
	"testing"

	"lemma/api"
)

// model is a second reading of what the chapter says of lists: every two nodes are held against each other, and sizes are counted in full.
type model struct {
	l     []api.Node
	first []int // of each node the first with an equal tree
	size  []*big.Int
	depth []int
}

// modelOf reads a list that is one.
func modelOf(l []api.Node) *model {
	m := &model{l: l}
	for n, node := range l {
		size, depth := big.NewInt(1), 0
		for _, kid := range node.Kids {
			size.Add(size, m.size[kid])
			depth = max(depth, m.depth[kid])
		}
		m.size, m.depth = append(m.size, size), append(m.depth, depth+1)
		m.first = append(m.first, slices.IndexFunc(l[:n+1], func(earlier api.Node) bool { return m.equal(earlier, node) }))
	}
	return m
}

// equal tells whether two nodes whose kids have been read are equal trees.
func (m *model) equal(a, b api.Node) bool {
	return a.Label == b.Label && slices.EqualFunc(a.Kids, b.Kids, func(i, k int) bool { return m.first[i] == m.first[k] })
}

// labels unfolds the node n.
func (m *model) labels(n int) []string {
	var all []string
	for _, kid := range m.l[n].Kids {
		all = append(all, m.labels(kid)...)
	}
	return append(all, m.l[n].Label)
}

// share puts the nodes of n's derivation into a list, those ahead that are not there yet; place has where trees stand in it.
func (m *model) share(n int, place map[int]int, list []api.Node) []api.Node {
	if _, there := place[m.first[n]]; there {
		return list
	}
	node := api.Node{Label: m.l[n].Label}
	for _, kid := range m.l[n].Kids {
		list = m.share(kid, place, list)
		node.Kids = append(node.Kids, place[m.first[kid]])
	}
	place[m.first[n]] = len(list)
	return append(list, node)
}

// told is what the calls about a list answer of one.
type told struct {
	size, depth int
	labels      string
	small       bool
	shared      string
}

func (m *model) told() told {
	n := len(m.l) - 1
	x := told{depth: m.depth[n], size: 2001, shared: text(m.share(n, map[int]int{}, nil))}
	if m.size[n].Cmp(big.NewInt(2000)) <= 0 {
		x.size, x.small = int(m.size[n].Int64()), true
		x.labels = strings.Join(m.labels(n), " ")
	}
	return x
}

func toldBy(l []api.Node) told {
	labels, small := Labels(l)
	return told{Size(l), Depth(l), strings.Join(labels, " "), small, text(Share(l))}
}

// holds holds the calls about a list against the model, and what P13.10 says.
func holds(t *testing.T, l []api.Node) told {
	t.Helper()
	want := modelOf(l).told()
	if got := toldBy(l); got != want {
		t.Fatalf("P13.3 to P13.6: %.300q: %.600v, want %.600v", text(l), got, want)
	}
	shared := Share(l)
	if got := toldBy(shared); got != want {
		t.Fatalf("P13.10: %.300q, shared: %.600v, want %.600v", text(l), got, want)
	}
	if !Same(l, shared) || !Same(shared, l) || !Same(l, l) {
		t.Fatalf("P13.10: %.300q is not the same as %.300q", text(l), text(shared))
	}
	return want
}

// shortLists gives every list of at most so many items.
func shortLists[T any](most int, items ...T) [][]T {
	all := [][]T{nil}
	for from := 0; from < len(all) && len(all[from]) < most; from++ {
		for _, item := range items {
			all = append(all, append(slices.Clone(all[from]), item))
		}
	}
	return all
}

// upTo gives the numbers from 0 on, so many.
func upTo(n int) []int {
	var all []int
	for i := range n {
		all = append(all, i)
	}
	return all
}

// shortTrees gives every list of so many nodes, with one of two labels each and at most two kids.
func shortTrees(many int) [][]api.Node {
	all := [][]api.Node{nil}
	for n := range many {
		var longer [][]api.Node
		for _, l := range all {
			for _, kids := range shortLists(2, upTo(n)...) {
				for _, label := range []string{"a", "b"} {
					longer = append(longer, append(slices.Clone(l), api.Node{Label: label, Kids: kids}))
				}
			}
		}
		all = longer
	}
	return all
}

// P13.3 to P13.6, P13.10: all lists of at most four nodes.
func TestShortTrees(t *testing.T) {
	shorter := 0
	for many := range 4 {
		for _, l := range shortTrees(many + 1) {
			if holds(t, l); len(Share(l)) < len(l) {
				shorter++
			}
		}
	}
	if shorter < 1000 {
		t.Errorf("Share made %d lists shorter: hardly tried", shorter)
	}
}

// P13.7: every two lists of at most three nodes: the same just if their unfolded trees are, brackets and all.
func TestSameOfShortTrees(t *testing.T) {
	all := slices.Concat(shortTrees(1), shortTrees(2), shortTrees(3))
	var whole []string
	for _, l := range all {
		whole = append(whole, bracketed(l, len(l)-1))
	}
	same := 0
	for i, l := range all {
		for k, other := range all {
			want := whole[i] == whole[k]
			if Same(l, other) != want {
				t.Fatalf("P13.7: Same(%q, %q) is not %v", text(l), text(other), want)
			}
			if want && i != k {
				same++
			}
			// The same derivations, shared, are the same list.
			if want != (text(Share(l)) == text(Share(other))) {
				t.Fatalf("P13.6: %q and %q, shared: %q and %q", text(l), text(other), text(Share(l)), text(Share(other)))
			}
		}
	}
	if same < 1000 {
		t.Errorf("%d were the same: hardly tried", same)
	}
}

// bracketed writes the tree of a node in full.
func bracketed(l []api.Node, n int) string {
	whole := l[n].Label + "("
	for _, kid := range l[n].Kids {
		whole += bracketed(l, kid)
	}
	return whole + ")"
}

// rule makes numbers by a fixed rule, the same in every run.
type rule uint64

func (r *rule) below(n int) int {
	*r = *r*6364136223846793005 + 1442695040888963407
	return int(uint64(*r)>>33) % n
}

// list makes a list of nodes; most kids are among the last few.
func (r *rule) list(many, labels, kids int) []api.Node {
	var l []api.Node
	for n := range many {
		node := api.Node{Label: string(rune('a' + r.below(labels)))}
		if n > 0 && r.below(10) > 0 {
			for range 1 + r.below(kids) {
				kid := r.below(n)
				if r.below(5) > 0 {
					kid = n - 1 - r.below(min(n, 4))
				}
				node.Kids = append(node.Kids, kid)
			}
		}
		l = append(l, node)
	}
	return l
}

// P13.3 to P13.7, P13.10: longer lists by a rule, many of them too big to be unfolded.
func TestListsByRule(t *testing.T) {
	r := rule(13)
	small, big, shorter, unused := 0, 0, 0, 0
	for range 4000 {
		l := r.list(1+r.below(60), 1+r.below(3), 1+r.below(4))
		x := holds(t, l)
		if x.small {
			small++
		} else {
			big++
		}
		shared := Share(l)
		if len(shared) < len(l) {
			shorter++
		}
		if Size(l) < len(l) {
			unused++
		}
		cut := l[:1+r.below(len(l))]
		joined := modelOf(slices.Concat(shared, moved(cut, len(shared))))
		if want := joined.first[len(shared)-1] == joined.first[len(joined.l)-1]; Same(l, cut) != want || Same(cut, l) != want {
			t.Fatalf("P13.7: Same(%q, %q) is not %v", text(l), text(cut), want)
		}
	}
	if small < 500 || big < 500 || shorter < 500 || unused < 100 {
		t.Errorf("%d small, %d big, %d that Share makes shorter, %d with nodes that do not belong: hardly tried", small, big, shorter, unused)
	}
}

// moved gives the nodes as they are behind so many others.
func moved(l []api.Node, by int) []api.Node {
	var all []api.Node
	for _, node := range l {
		kids := slices.Clone(node.Kids)
		for i := range kids {
			kids[i] += by
		}
		all = append(all, api.Node{Label: node.Label, Kids: kids})
	}
	return all
}

// chain gives a list of so many nodes, each with the one ahead of it.
func chain(many int) []api.Node {
	var l []api.Node
	for n := range many {
		node := api.Node{Label: "c"}
		if n > 0 {
			node.Kids = []int{n - 1}
		}
		l = append(l, node)
	}
	return l
}

// wide gives a node with so many kids, all one leaf.
func wide(many int) []api.Node {
	return []api.Node{{Label: "a"}, {Label: "w", Kids: make([]int, many)}}
}

// P13.3, P13.5: MaxUnfold labels, one fewer and one more, as a chain, side by side, and of shared parts.
func TestSizeLimit(t *testing.T) {
	for size := 1997; size < 2005; size++ {
		lists := [][]api.Node{chain(size), wide(size - 1)}
		// 1023 labels, and the rest in a chain beside them, under one node.
		both := slices.Concat(doubling(10), moved(chain(size-1024), 10))
		lists = append(lists, append(both, api.Node{Label: "r", Kids: []int{9, len(both) - 1}}))
		// 511 labels three times, 1533, and leaves.
		lists = append(lists, append(doubling(9), api.Node{Label: "r", Kids: slices.Concat([]int{8, 8, 8}, make([]int, size-1534))}))
		for i, l := range lists {
			labels, small := Labels(l)
			if Size(l) != min(size, 2001) || small != (size <= 2000) || small && len(labels) != size || !small && len(labels) != 0 {
				t.Errorf("P13.3, P13.5: list %d of %d labels: Size %d, %d labels, %v", i, size, Size(l), len(labels), small)
			}
			holds(t, l)
		}
	}
}

// P13.3: sizes whose sum or product would not fit into an int.
func TestHugeSizes(t *testing.T) {
	for _, many := range []int{11, 12, 63, 64, 65, 66, 128, 1000} {
		if l := doubling(many); Size(l) != 2001 || Depth(l) != many {
			t.Errorf("P13.3, P13.4: %d nodes that double: %d, %d", many, Size(l), Depth(l))
		}
		l := append(doubling(many), api.Node{Label: "z"}, api.Node{Label: "r", Kids: slices.Repeat([]int{many - 1}, 5000)})
		if Size(l) != 2001 || Depth(l) != many+1 || len(Share(l)) != many+1 {
			t.Errorf("P13.3, P13.4, P13.6: %d nodes that double, 5000 times: %d, %d, %d", many, Size(l), Depth(l), len(Share(l)))
		}
	}
}

// P13.3 to P13.7: nodes that do not belong to the last one's derivation do not count, wherever they stand.
func TestNodesOutside(t *testing.T) {
	for _, l := range []string{"a; b 0; c", "z; z 0; a; b 2; z 1 3; c", "c; b 0; c", "c"} {
		x := holds(t, nodes(l))
		if !Same(nodes(l), nodes("c")) || Same(nodes(l), nodes("a")) || x.size != 1 || x.depth != 1 || x.shared != "c" {
			t.Errorf("%q: %v", l, x)
		}
	}
	l := nodes("q; a; q 0 1; b 1 1; q 3; b 1 1; c 5 3")
	if x := holds(t, l); x != (told{7, 3, "a a b a a b c", true, "a; b 0 0; c 1 1"}) {
		t.Errorf("P13.3 to P13.6: %v", x)
	}
	if !Same(l, nodes("a; b 0 0; c 1 1")) || !Same(append(doubling(70), nodes("c")...), nodes("c")) {
		t.Error("P13.7: nodes outside count")
	}
}

// P13.6: nodes come in the order in which they first come to an end in the unfolded derivation, whatever their order in the list.
func TestShareOrder(t *testing.T) {
	for l, want := range map[string]string{
		"a; b; c; d 2 1 0":                       "c; b; a; d 0 1 2",
		"a; b; f 1 0; g 0 2; h 3 1":              "a; b; f 1 0; g 0 2; h 3 1",
		"a; b; f 1 0; g 2 0; h 3 1":              "b; a; f 0 1; g 2 1; h 3 0",
		"a; b; f 0; g 1; h 3 2 3":                "b; g 0; a; f 2; h 1 3 1",
		"a; a; f 0 1; a; f 3 0; g 2; g 4; h 6 5": "a; f 0 0; g 1; h 2 2",
		"a; b 0; c 1; d 2; e 3 2 1 0":            "a; b 0; c 1; d 2; e 3 2 1 0",
		"a; b 0; c 1; d 2; e 0 1 2 3":            "a; b 0; c 1; d 2; e 0 1 2 3",
	} {
		if x := holds(t, nodes(l)); x.shared != want || text(Share(nodes(l))) != want {
			t.Errorf("P13.6: %q, shared: %q, want %q", l, text(Share(nodes(l))), want)
		}
	}
}

// P13.6, P13.7: labels are any texts, and kids any number: nothing of a label is taken for a part, nor the other way round.
func TestAnyLabels(t *testing.T) {
	odd := []string{"", " ", "0", "1", "0 1", "a", "a 0", "a;", "a\x00", "\xff", "(", "a()", strings.Repeat("x", 1000)}
	var all [][]api.Node
	for _, label := range odd {
		for _, kids := range [][]int{nil, {0}, {0, 0}, {1, 0}, {0, 1}} {
			all = append(all, []api.Node{{Label: "0"}, {Label: "1"}, {Label: label, Kids: kids}})
		}
	}
	for i, l := range all {
		for k, other := range all {
			if Same(l, other) != (i == k) {
				t.Errorf("P13.7: %v and %v: %v", l, other, Same(l, other))
			}
		}
		shared := Share(l)
		if shared[len(shared)-1].Label != l[2].Label || len(shared[len(shared)-1].Kids) != len(l[2].Kids) || len(Share(shared)) != len(shared) {
			t.Errorf("P13.6: %v, shared: %v", l, shared)
		}
		if labels, small := Labels(l); !small || labels[len(labels)-1] != l[2].Label || len(labels) != 1+len(l[2].Kids) {
			t.Errorf("P13.5: %v: %q", l, labels)
		}
	}
}

// P13.7: parts in another order, one part other, one more.
func TestNotTheSame(t *testing.T) {
	lists := []string{"a", "b", "a; b 0", "a; b 0 0", "a; b 0 0 0", "a; c; b 0 1", "a; c; b 1 0", "a; c 0; b 0 1", "a; c 0; b 1 0", "a; c 0; b 1", "a; c 0; b 1; b 2", "a; c 0; c 1; b 2"}
	for i, l := range lists {
		for k, other := range lists {
			if Same(nodes(l), nodes(other)) != (i == k) {
				t.Errorf("P13.7: %q and %q: %v", l, other, i != k)
			}
		}
	}
}
