package stmt

import (
	"math"

	"lemma/api"
)

const (
	proofMark = "$="
	endMark   = "$."
)

// noLimit is how many words those kinds may have whose number is not looked at in this layer.
const noLimit = math.MaxInt

// shape is what the statements of one kind must look like.
type shape struct {
	keyword  string
	labelled bool
	least    int // words
	most     int
}

// shapes tells them by kind; the row 0 is no kind's.
var shapes = [...]shape{
	api.StConst:   {"$c", false, 1, noLimit},
	api.StVar:     {"$v", false, 1, noLimit},
	api.StFloat:   {"$f", true, 2, 2},
	api.StEss:     {"$e", true, 1, noLimit},
	api.StDist:    {"$d", false, 2, api.MaxVars},
	api.StAxiom:   {"$a", true, 1, noLimit},
	api.StTheorem: {"$p", true, 1, noLimit},
	api.StOpen:    {"${", false, 0, 0},
	api.StClose:   {"$}", false, 0, 0},
}

// kindOf gives the kind of the statements that a keyword begins; 0: it begins none.
func kindOf(keyword string) int {
	for kind, s := range shapes {
		if s.keyword == keyword {
			return kind
		}
	}
	return 0
}

func isKind(n int) bool { return n > 0 && n < len(shapes) }

func (s shape) takesLabel(label string) bool {
	if s.labelled {
		return plain(label)
	}
	return label == ""
}

func (s shape) takesWords(words []api.Token) bool {
	return len(words) >= s.least && len(words) <= s.most && allPlain(words)
}

// plain tells whether a text is a word, and no keyword.
func plain(text string) bool {
	if text == "" || text[0] == '$' {
		return false
	}
	for i := range len(text) {
		if text[i] < 33 || text[i] > 126 {
			return false
		}
	}
	return true
}

func allPlain(words []api.Token) bool {
	for _, w := range words {
		if !plain(w.Text) {
			return false
		}
	}
	return true
}
