package proof

import (
	"slices"
	"strings"

	"lemma/api"
)

// inLines lays words one behind the other, as many to a line as it takes.
func inLines(words []string) string {
	var text strings.Builder
lines:
	for len(words) > 0 {
		// A line's first word has no line that it would fit better.
		text.WriteString(words[0])
		filled := len(words[0])
		for i, word := range words[1:] {
			if filled+1+len(word) > api.MaxLine {
				text.WriteByte('\n')
				words = words[1+i:]
				continue lines
			}
			text.WriteByte(' ')
			text.WriteString(word)
			filled += 1 + len(word)
		}
		break lines
	}
	return text.String()
}

// onLines lays letters on lines of their own, each begun by the end of the line ahead of it: so of no letters there is nothing.
func onLines(letters string) string {
	var text strings.Builder
	for line := range slices.Chunk([]byte(letters), api.MaxLine) {
		text.WriteByte('\n')
		text.Write(line)
	}
	return text.String()
}
