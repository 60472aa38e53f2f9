package tree

import (
	"iter"

	"lemma/api"
)

// none tells whether a list is none: empty, or with a kid that is no earlier node.
func none(l []api.Node) bool {
	for n, node := range l {
		for _, kid := range node.Kids {
			if kid < 0 || kid >= n {
				return true
			}
		}
	}
	return len(l) == 0
}

// each goes through what is told of a node's parts, where told has it of each node.
func each[T any](kids []int, told []T) iter.Seq[T] {
	return func(yield func(T) bool) {
		for _, kid := range kids {
			if !yield(told[kid]) {
				return
			}
		}
	}
}

// measure gives a number of the last node, where a node's hangs on its parts' alone: each node is asked once, however often others lean on it. Of a list that is none it is 0.
func measure(l []api.Node, from func(parts iter.Seq[int]) int) int {
	if none(l) {
		return 0
	}
	told := make([]int, 0, len(l))
	for _, node := range l {
		told = append(told, from(each(node.Kids, told)))
	}
	return told[len(l)-1]
}

// unfolded goes through the last node's derivation, parts first, and through a shared node each time: it is for lists whose Size is known to be small.
func unfolded(l []api.Node) iter.Seq[api.Node] {
	return func(yield func(api.Node) bool) {
		var through func(n int) bool
		through = func(n int) bool {
			for _, kid := range l[n].Kids {
				if !through(kid) {
					return false
				}
			}
			return yield(l[n])
		}
		through(len(l) - 1)
	}
}

// begun is a node that has begun and not come to an end, and how many of its kids have been looked at.
type begun struct{ node, kids int }

// ends goes through the numbers of the nodes at which the trees of the last one's derivation first come to an end, parts first, each tree once; tree has the tree's number of each node. What has begun waits in a list, not in calls within calls: a derivation may be as deep as the list is long.
func ends(l []api.Node, tree []int) iter.Seq[int] {
	return func(yield func(int) bool) {
		ended := map[int]struct{}{}
		waiting := []begun{{node: len(l) - 1}}
		for len(waiting) > 0 {
			last := &waiting[len(waiting)-1]
			if kids := l[last.node].Kids; last.kids < len(kids) {
				kid := kids[last.kids]
				last.kids++
				if _, met := ended[tree[kid]]; !met {
					waiting = append(waiting, begun{node: kid})
				}
				continue
			}
			ended[tree[last.node]] = struct{}{}
			if !yield(last.node) {
				return
			}
			waiting = waiting[:len(waiting)-1]
		}
	}
}
