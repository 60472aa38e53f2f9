package scan

import (
	"iter"

	"lemma/api"
)

// words hands on the text's words, those of comments too, each as it is complete, with OK; a byte at which the text may not go on comes last, as a token without text, with its error.
func words(text string) iter.Seq2[api.Token, api.Errno] {
	return func(yield func(api.Token, api.Errno) bool) {
		line, lineStart := 1, 0
		start := 0 // where the run of word bytes begins that is gone through now; it may still be empty
		place := func(off int) api.Pos {
			return api.Pos{Off: off, Line: line, Col: off - lineStart + 1}
		}
		for off := range len(text) {
			if code := byteFault(text, off); code != api.OK {
				yield(api.Token{At: place(off)}, code)
				return
			}
			if kindOf(text[off]) != blankByte {
				continue
			}
			if start < off && !yield(api.Token{Text: text[start:off], At: place(start)}, api.OK) {
				return
			}
			start = off + 1
			if text[off] == '\n' {
				line, lineStart = line+1, off+1
			}
		}
		if start < len(text) {
			yield(api.Token{Text: text[start:], At: place(start)}, api.OK)
		}
	}
}

// byteFault asks for the byte's number first: beyond the last one that may be, the byte itself does not count.
func byteFault(text string, off int) api.Errno {
	switch {
	case off == api.MaxText:
		return api.ErrText
	case kindOf(text[off]) == strayByte:
		return api.ErrChar
	}
	return api.OK
}
