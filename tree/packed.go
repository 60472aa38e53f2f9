package tree

import "lemma/api"

func (r *run) packed(mandatory []api.Hyp, p api.Proof) bool {
	numbers, sound := r.listed(mandatory, p.Labels)
	return sound && !p.Broken && r.codes(numbers, p.Codes) && !p.Cut
}

// listed gives what numbers mean ahead of the saved steps: the mandatory hypotheses, then the words in the brackets; false: a word may not stand there.
func (r *run) listed(mandatory []api.Hyp, words []api.Token) ([]named, bool) {
	numbers := make([]named, 0, len(mandatory)+len(words))
	taken := make(map[string]struct{}, len(mandatory)+len(words))
	for _, h := range mandatory {
		numbers = append(numbers, named{h.Label, step{e: h.Expr}})
		taken[h.Label] = struct{}{}
	}
	for _, word := range words {
		what, found := r.find(word.Text)
		if _, twice := taken[word.Text]; twice || !found {
			return nil, false
		}
		numbers = append(numbers, named{word.Text, what})
		taken[word.Text] = struct{}{}
	}
	return numbers, true
}

// codes does what the letters say, one by one.
func (r *run) codes(numbers []named, codes []api.Code) bool {
	var saved []entry
	fresh := false // the code ahead was a number: what it laid on the stack may be saved
	for _, code := range codes {
		switch back := code.N - len(numbers); {
		case code.N == api.CodeSave && fresh:
			saved = append(saved, r.entries[len(r.entries)-1])
		case code.N < 0 || back >= len(saved):
			return false
		case back >= 0:
			// The node is there already: calling back makes none.
			r.entries = append(r.entries, saved[back])
		case !r.do(numbers[code.N]):
			return false
		}
		fresh = code.N != api.CodeSave
	}
	return true
}
