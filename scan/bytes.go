package scan

import "lemma/api"

// Kinds of bytes. From dollarByte on they make words, and there a later kind may stand wherever an earlier one may: so a name is asked for by the least kind that it takes.
const (
	strayByte  = iota // may stand nowhere
	blankByte         // parts words
	dollarByte        // makes words, but no names
	symbolByte        // makes symbols' names
	labelByte         // makes labels' names too
)

// kinds tells the kinds of the bytes below 128, 16 a row; above them all are stray.
var kinds = [128]uint8{
	0, 0, 0, 0, 0, 0, 0, 0, 0, 1, 1, 0, 1, 1, 0, 0,
	0, 0, 0, 0, 0, 0, 0, 0, 0, 0, 0, 0, 0, 0, 0, 0,
	1, 3, 3, 3, 2, 3, 3, 3, 3, 3, 3, 3, 3, 4, 4, 3,
	4, 4, 4, 4, 4, 4, 4, 4, 4, 4, 3, 3, 3, 3, 3, 3,
	3, 4, 4, 4, 4, 4, 4, 4, 4, 4, 4, 4, 4, 4, 4, 4,
	4, 4, 4, 4, 4, 4, 4, 4, 4, 4, 4, 3, 3, 3, 3, 4,
	3, 4, 4, 4, 4, 4, 4, 4, 4, 4, 4, 4, 4, 4, 4, 4,
	4, 4, 4, 4, 4, 4, 4, 4, 4, 4, 4, 3, 3, 3, 3, 0,
}

func kindOf(b byte) uint8 {
	if int(b) >= len(kinds) {
		return strayByte
	}
	return kinds[b]
}

// madeOf tells whether s is as long as a name may be, with no byte below the least kind.
func madeOf(s string, least uint8) bool {
	if len(s) < 1 || len(s) > api.MaxWord {
		return false
	}
	for i := range len(s) {
		if kindOf(s[i]) < least {
			return false
		}
	}
	return true
}
