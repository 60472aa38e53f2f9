package letters

import (
	"unicode/utf8"

	"lemma/api"
)

// reader reads letters one by one: what they said so far, and the number that is being read, which may go on in the next word.
type reader struct {
	codes []api.Code
	ahead int // what the digits amount to that no letter has ended yet; each is at least 1, so 0 says that there are none
}

// within tells whether digits of a number are there.
func (r *reader) within() bool { return r.ahead > 0 }

func (r *reader) read(word api.Token) {
	for at, letter := range word.Text {
		r.take(word, at, letter)
	}
}

// take reads the letter that begins at a byte of a word.
func (r *reader) take(word api.Token, at int, letter rune) {
	switch {
	case 'U' <= letter && letter <= 'Y':
		r.ahead = min(r.ahead*aheads+int(letter-'U')+1, limit)
	case 'A' <= letter && letter <= 'T':
		r.tell(word, min(r.ahead*lasts+int(letter-'A'), limit))
		r.ahead = 0
	case r.within():
		r.tell(word, api.CodeBad)
		r.ahead = 0
		fallthrough
	default:
		r.alone(word, at, letter)
	}
}

// alone tells what a letter says that is no digit.
func (r *reader) alone(word api.Token, at int, letter rune) {
	switch letter {
	case 'Z':
		r.tell(word, api.CodeSave)
	case '?':
		r.tell(word, api.CodeOpen)
	default:
		// The rune itself does not say how many bytes it had: one byte that is no rune comes as a rune of three.
		_, bytes := utf8.DecodeRuneInString(word.Text[at:])
		for range bytes {
			r.tell(word, api.CodeBad)
		}
	}
}

func (r *reader) tell(word api.Token, n int) {
	r.codes = append(r.codes, api.Code{N: n, At: word})
}
