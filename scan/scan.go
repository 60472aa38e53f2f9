// Package scan: a text's words, their places, its comments: see shared/doc/01-scan.md.
package scan

import (
	"strings"

	"lemma/api"
)

const (
	commentBegin = "$("
	commentEnd   = "$)"
)

// Scan gives the words that stand outside comments, up to the first fault; and that fault.
func Scan(text string) ([]api.Token, *api.Fault) {
	var r reader
	for word, code := range words(text) {
		if code == api.OK {
			code = r.take(word)
		}
		if code != api.OK {
			return r.told, faultAt(word, code)
		}
	}
	if r.inComment() {
		return r.told, faultAt(r.open, api.ErrOpen)
	}
	return r.told, nil
}

// Name tells whether a word is a label's name.
func Name(s string) bool { return madeOf(s, labelByte) }

// Symbol tells whether a word is a symbol's name.
func Symbol(s string) bool { return madeOf(s, symbolByte) }

// Place tells where a byte stands.
func Place(text string, off int) (api.Pos, bool) {
	if off < 0 || off > len(text) {
		return api.Pos{}, false
	}
	ahead := text[:off]
	line := strings.Count(ahead, "\n") + 1
	lineStart := strings.LastIndexByte(ahead, '\n') + 1
	return api.Pos{Off: off, Line: line, Col: off - lineStart + 1}, true
}

// reader parts the words that are told from those of comments.
type reader struct {
	told []api.Token
	open api.Token // the "$(" of the comment that is not ended yet; the zero token outside comments
}

func (r *reader) inComment() bool { return r.open.Text != "" }

// take looks at a complete word; with an error it is not told.
func (r *reader) take(word api.Token) api.Errno {
	if r.inComment() {
		return r.takeInComment(word)
	}
	switch {
	case word.Text == commentBegin:
		r.open = word
	case word.Text == commentEnd:
		return api.ErrComment
	case len(r.told) == api.MaxTokens:
		return api.ErrText
	default:
		r.told = append(r.told, ownWord(word))
	}
	return api.OK
}

func (r *reader) takeInComment(word api.Token) api.Errno {
	if word.Text == commentEnd {
		r.open = api.Token{}
		return api.OK
	}
	if strings.Contains(word.Text, commentBegin) || strings.Contains(word.Text, commentEnd) {
		return api.ErrComment
	}
	return api.OK
}

func faultAt(word api.Token, code api.Errno) *api.Fault {
	own := ownWord(word)
	return &api.Fault{At: own.At, Text: own.Text, Code: code}
}

// ownWord copies the word's bytes: what is told must not share the text's memory.
func ownWord(word api.Token) api.Token {
	return api.Token{Text: strings.Clone(word.Text), At: word.At}
}
