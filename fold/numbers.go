package fold

import "lemma/api"

// numbers is what codes call labels by: those of mandatory hypotheses, and behind them those in the brackets.
type numbers struct {
	labels map[string]int
	listed []string // in the brackets
	many   int      // of both together: the number of the first part that is saved
}

// numbersOf gives the mandatory hypotheses their numbers, of two with one label the first one's, and behind them the other labels that the steps name, in the order in which they come first.
func numbersOf(mandatory []api.Hyp, parts []part, taken []step) numbers {
	n := numbers{labels: map[string]int{}, many: len(mandatory)}
	for i, h := range mandatory {
		if _, met := n.labels[h.Label]; !met {
			n.labels[h.Label] = i
		}
	}
	for _, s := range taken {
		label := parts[s.part].label
		if _, met := n.labels[label]; !met {
			n.labels[label] = n.many
			n.listed = append(n.listed, label)
			n.many++
		}
	}
	return n
}

// codes writes the steps down.
func (n numbers) codes(parts []part, taken []step) []int {
	all := make([]int, 0, len(taken))
	saved := map[int]int{} // by a part's number: what it is called back by
	for _, s := range taken {
		code := n.labels[parts[s.part].label]
		switch s.does {
		case saving:
			saved[s.part] = n.many + len(saved)
			code = api.CodeSave
		case callingBack:
			code = saved[s.part]
		}
		all = append(all, code)
	}
	return all
}
