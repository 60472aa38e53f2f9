package unfold

import (
	"iter"

	"lemma/api"
)

// labels hands out the labels of the last node's derivation, parts first, those of a shared node each time. Nothing is made ahead: it goes only as far as its caller does.
func labels(l []api.Node) iter.Seq[string] {
	return func(yield func(string) bool) {
		if len(l) > 0 {
			handOut(l, len(l)-1, yield)
		}
	}
}

// handOut hands out the labels of the node n's derivation; false: the caller has broken off.
func handOut(l []api.Node, n int, yield func(string) bool) bool {
	for _, kid := range l[n].Kids {
		if !handOut(l, kid, yield) {
			return false
		}
	}
	return yield(l[n].Label)
}
