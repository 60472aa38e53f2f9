package syntax

import "lemma/api"

// A measure says what is known of a string by what is known of its parts. 0 is what is known of a string without a derivation; a label alone is 1.
type measure interface {
	// either is for a string that is derived in one way or another.
	either(one, other int) int
	// both is for a part and the rest, where each must be derived.
	both(part, rest int) int
	// around is for a way on which one may go round as often as one likes, if there is a loop on it, which is not 0.
	around(loop, way int) int
}

// sizes tells the least derivation's size.
type sizes struct{}

func (sizes) either(one, other int) int {
	if one == 0 || other == 0 {
		return one + other
	}
	return min(one, other)
}

func (sizes) both(part, rest int) int {
	if part == 0 || rest == 0 {
		return 0
	}
	return min(part+rest, api.MaxUnfold+1)
}

// around is the way itself: it gets no shorter by going round.
func (sizes) around(_, way int) int { return way }

// counts tells how many derivations there are.
type counts struct{}

const manyWays = api.MaxMatches + 1

func (counts) either(one, other int) int { return min(one+other, manyWays) }

func (counts) both(part, rest int) int { return min(part*rest, manyWays) }

func (counts) around(loop, way int) int {
	if loop == 0 || way == 0 {
		return way
	}
	return manyWays
}
