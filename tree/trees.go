package tree

import "lemma/api"

// trees gives numbers to trees, the same to equal ones, whichever lists they stand in. A tree is a leaf, or a tree with one part fewer and a part behind that one's: so its number hangs on two numbers, however many parts it has, and no tree is ever gone through.
type trees struct {
	leaves map[string]int // by label
	grown  map[growth]int
}

// growth is a tree and the part that is put behind its parts.
type growth struct{ tree, part int }

func newTrees() trees { return trees{map[string]int{}, map[growth]int{}} }

// numbers gives the number of each node's tree.
func (t trees) numbers(l []api.Node) []int {
	told := make([]int, 0, len(l))
	for _, node := range l {
		tree := t.leaf(node.Label)
		for part := range each(node.Kids, told) {
			tree = t.grow(growth{tree, part})
		}
		told = append(told, tree)
	}
	return told
}

func (t trees) leaf(label string) int {
	n, met := t.leaves[label]
	if !met {
		n = t.next()
		t.leaves[label] = n
	}
	return n
}

func (t trees) grow(g growth) int {
	n, met := t.grown[g]
	if !met {
		n = t.next()
		t.grown[g] = n
	}
	return n
}

// next is the first number that no tree has.
func (t trees) next() int { return len(t.leaves) + len(t.grown) }
