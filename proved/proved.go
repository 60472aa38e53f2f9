// Package proved: the derivation behind a verdict. What layers above verify tell of a proved theorem, they tell of this.
package proved

import (
	"lemma/api"
	"lemma/base"
	"lemma/proof"
	"lemma/tree"
	"lemma/verify"
)

// Derivation gives what a proved theorem's proof denotes: nodes of which a saved step's is shared, so that they are no more than the proof's steps. ErrNone: no such theorem; ErrUnproved: it is not proved.
func Derivation(b *base.Base, n int) ([]api.Node, api.Errno) {
	v, code := verify.Theorem(b, n)
	if code != api.OK {
		return nil, code
	}
	if v.Code != api.OK {
		return nil, api.ErrUnproved
	}
	// The theorem is there and proved: so are its context and its derivation.
	a, _ := b.At(n)
	c, _ := b.Context(n)
	return tree.Of(b, c, proof.Parse(a.Proof, a.End))
}
