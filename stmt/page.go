package stmt

import (
	"strings"

	"lemma/api"
)

// page is a text that is being printed.
type page struct {
	text  strings.Builder
	words int
	full  bool // a word found no room: nothing more is laid down, however much comes
}

func (p *page) line(s statement) {
	switch s := s.(type) {
	case *bracket:
		p.put(shapes[s.kind].keyword, '\n')
	case *clause:
		p.head(s)
		p.put(endMark, '\n')
	case *theorem:
		p.head(&s.clause)
		p.put(proofMark, ' ')
		p.all(s.proof)
		p.put(endMark, '\n')
	}
}

// head lays down what all but brackets have.
func (p *page) head(c *clause) {
	wanted := shapes[c.kind]
	if wanted.labelled {
		p.put(c.label.Text, ' ')
	}
	p.put(wanted.keyword, ' ')
	p.all(c.words)
}

func (p *page) all(words []api.Token) {
	for _, w := range words {
		p.put(w.Text, ' ')
	}
}

// put lays down a word with what parts it from the next.
func (p *page) put(word string, behind byte) {
	if p.words == api.MaxTokens || len(word) >= api.MaxText-p.text.Len() {
		p.full = true
	}
	if p.full {
		return
	}
	p.words++
	p.text.WriteString(word)
	p.text.WriteByte(behind)
}
