package fold

import "iter"

// step is what one code of the packed proof does with a part.
type step struct {
	part int // its number
	does int
}

// What a step does.
const (
	naming = iota // the part's label comes, behind its own parts
	saving
	callingBack
)

// begun is a part that has begun and not come to an end, and how many of its own parts have been looked at.
type begun struct{ part, kids int }

// steps goes through the whole, the last of the parts, and hands out what the codes do one by one. What has begun waits in a list, not in calls within calls: a derivation may be as deep as it has parts.
func steps(parts []part) iter.Seq[step] {
	return func(yield func(step) bool) {
		ended := make([]bool, len(parts))
		waiting := []begun{{part: len(parts) - 1}}
		for len(waiting) > 0 {
			last := &waiting[len(waiting)-1]
			p := parts[last.part]
			if last.kids < len(p.kids) {
				kid := p.kids[last.kids]
				last.kids++
				if !ended[kid] || !parts[kid].saved() {
					waiting = append(waiting, begun{part: kid})
				} else if !yield(step{kid, callingBack}) {
					return
				}
				continue
			}
			n := last.part
			ended[n] = true
			waiting = waiting[:len(waiting)-1]
			if !yield(step{n, naming}) || p.saved() && !yield(step{n, saving}) {
				return
			}
		}
	}
}
