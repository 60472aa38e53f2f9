package stmt

import "lemma/api"

// statement is a statement inside: a *bracket, a *clause or a *theorem.
type statement interface {
	told() api.Stmt
}

// bracket begins or ends a scope; it is whole as soon as it is there.
type bracket struct {
	kind int
	key  api.Token
}

// clause is any other statement that proves nothing.
type clause struct {
	kind  int
	label api.Token
	key   api.Token
	words []api.Token
	end   api.Token
}

type theorem struct {
	clause
	proving bool
	proof   []api.Token
}

// newStatement makes the one that a keyword begins, as yet without words.
func newStatement(kind int, label, key api.Token) statement {
	c := clause{kind: kind, label: label, key: key}
	switch kind {
	case api.StOpen, api.StClose:
		return &bracket{kind: kind, key: key}
	case api.StTheorem:
		return &theorem{clause: c}
	}
	return &c
}

// made turns a statement that was handed in into one for looking at alone; false: it is no statement.
func made(given api.Stmt) (statement, bool) {
	if !isKind(given.Kind) {
		return nil, false
	}
	wanted := shapes[given.Kind]
	if !wanted.takesLabel(given.Label.Text) || !wanted.takesWords(given.Words) {
		return nil, false
	}
	s := newStatement(given.Kind, given.Label, given.Key)
	switch s := s.(type) {
	case *theorem:
		s.words, s.proof = given.Words, given.Proof
		return s, allPlain(given.Proof)
	case *clause:
		s.words = given.Words
	}
	return s, len(given.Proof) == 0
}

// addWord lays a plain word behind those that the statement has; a bracket takes none.
func addWord(s statement, word api.Token) api.Errno {
	switch s := s.(type) {
	case *theorem:
		if s.proving {
			s.proof = append(s.proof, word)
			return api.OK
		}
		return s.add(word)
	case *clause:
		return s.add(word)
	}
	return api.ErrForm
}

// beginProof is for theorems alone, and once.
func beginProof(s statement) api.Errno {
	switch s := s.(type) {
	case *theorem:
		if s.proving {
			return api.ErrKeyword
		}
		if len(s.words) < shapes[s.kind].least {
			return api.ErrForm
		}
		s.proving = true
		return api.OK
	}
	return api.ErrKeyword
}

// endAt ends the statement; with an error it stays without an end.
func endAt(s statement, end api.Token) api.Errno {
	switch s := s.(type) {
	case *theorem:
		if s.proving {
			return s.finish(end)
		}
	case *clause:
		return s.finish(end)
	}
	return api.ErrForm
}

func (c *clause) add(word api.Token) api.Errno {
	if len(c.words) == shapes[c.kind].most {
		return api.ErrForm
	}
	c.words = append(c.words, word)
	return api.OK
}

func (c *clause) finish(end api.Token) api.Errno {
	if len(c.words) < shapes[c.kind].least {
		return api.ErrForm
	}
	c.end = end
	return api.OK
}

func (b *bracket) told() api.Stmt { return api.Stmt{Kind: b.kind, Key: b.key, End: b.key} }

func (c *clause) told() api.Stmt {
	return api.Stmt{Kind: c.kind, Label: c.label, Key: c.key, Words: c.words, End: c.end}
}

func (t *theorem) told() api.Stmt {
	s := t.clause.told()
	s.Proving, s.Proof = t.proving, t.proof
	return s
}
