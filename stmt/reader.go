package stmt

import "lemma/api"

// reader goes through a text's words and keeps the statements that have begun.
type reader struct {
	begun   []statement
	open    statement // the last that has begun, while it has not ended; nil between statements
	waiting api.Token // the label of the statement to come; the zero token: none
}

// midway tells whether the text may not end here.
func (r *reader) midway() bool { return r.open != nil || r.waits() }

func (r *reader) waits() bool { return r.waiting.Text != "" }

// take looks at the next word; with an error everything stays as it was ahead of it.
func (r *reader) take(word api.Token) api.Errno {
	if r.open != nil {
		return r.takeWithin(word)
	}
	return r.takeBetween(word)
}

func (r *reader) takeBetween(word api.Token) api.Errno {
	if plain(word.Text) {
		if r.waits() {
			return api.ErrKeyword
		}
		r.waiting = word
		return api.OK
	}
	kind := kindOf(word.Text)
	if kind == 0 {
		return api.ErrKeyword
	}
	if shapes[kind].labelled != r.waits() {
		return api.ErrLabel
	}
	r.begin(newStatement(kind, r.waiting, word))
	return api.OK
}

func (r *reader) begin(s statement) {
	r.begun = append(r.begun, s)
	r.waiting = api.Token{}
	switch s.(type) {
	case *clause, *theorem:
		r.open = s
	}
}

func (r *reader) takeWithin(word api.Token) api.Errno {
	if plain(word.Text) {
		return addWord(r.open, word)
	}
	switch word.Text {
	case proofMark:
		return beginProof(r.open)
	case endMark:
		return r.end(word)
	}
	return api.ErrKeyword
}

func (r *reader) end(word api.Token) api.Errno {
	code := endAt(r.open, word)
	if code == api.OK {
		r.open = nil
	}
	return code
}

// told gives all that have begun: one that has not ended is broken off as it stands.
func (r *reader) told() []api.Stmt {
	var list []api.Stmt
	for _, s := range r.begun {
		list = append(list, s.told())
	}
	return list
}
