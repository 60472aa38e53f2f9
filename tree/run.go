package tree

import "lemma/api"

// open is the word of a step that is left open.
const open = "?"

// run is where a proof has come to. Its stack is no machine's: it may have any number of entries.
type run struct {
	site
	nodes   []api.Node
	entries []entry
}

// entry is what lies on the stack, and the node that made it.
type entry struct {
	node   int
	proves api.Expr
}

// whole does all steps of a proof; false: one of them is an error, or they are not just one derivation's.
func (r *run) whole(mandatory []api.Hyp, p api.Proof) bool {
	if p.Form == api.FormPacked {
		return r.packed(mandatory, p) && len(r.entries) == 1
	}
	return r.plain(p.Labels) && len(r.entries) == 1
}

func (r *run) plain(labels []api.Token) bool {
	for _, label := range labels {
		if label.Text == open {
			return false
		}
		what, found := r.find(label.Text)
		if !found || !r.do(named{label.Text, what}) {
			return false
		}
	}
	return true
}

// named is a label with what it stands for.
type named struct {
	label string
	step
}

// do takes what a label's step takes off the stack, and lays on it what that makes: a node more.
func (r *run) do(n named) bool {
	at := len(r.entries) - n.takes()
	if at < 0 {
		return false
	}
	kids := make([]int, 0, n.takes())
	parts := make([]api.Expr, 0, n.takes())
	for _, taken := range r.entries[at:] {
		kids = append(kids, taken.node)
		parts = append(parts, taken.proves)
	}
	proves, sound := r.prove(n.step, parts)
	if !sound {
		return false
	}
	r.entries = append(r.entries[:at], entry{len(r.nodes), proves})
	r.nodes = append(r.nodes, api.Node{Label: n.label, Kids: kids})
	return true
}
