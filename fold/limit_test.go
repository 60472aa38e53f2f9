package fold

import (
	"slices"
	"strconv"
	"testing"

	"lemma/api"
	"lemma/proof"
	"lemma/verify"
)

// chain is a derivation of so many nodes, one above the other.
func chain(many int) []api.Node {
	l := []api.Node{{Label: "g"}}
	for n := range many - 1 {
		l = append(l, api.Node{Label: "j", Kids: []int{n}})
	}
	return l
}

// doubled is a derivation of a leaf and so many nodes above it, each holding the one below it twice.
func doubled(many int) []api.Node {
	l := []api.Node{{Label: "g"}}
	for n := range many {
		l = append(l, api.Node{Label: "d", Kids: []int{n, n}})
	}
	return l
}

// doubledCodes is what that is folded to, where first is g's number: three codes for each doubling.
func doubledCodes(many, first int) []int {
	codes := []int{first, first, first + 1}
	for n := range many - 1 {
		codes = append(codes, api.CodeSave, first+2+n, first+1)
	}
	return codes
}

// wide is a node that holds a leaf so many times.
func wide(many int) []api.Node {
	return []api.Node{{Label: "g"}, {Label: "w", Kids: make([]int, many)}}
}

// codesAre holds Nodes to answer so many codes, or ErrSteps, if they are too many.
func codesAre(t *testing.T, l []api.Node, many int) {
	t.Helper()
	listed, codes, code := Nodes(mandatory("h", "i"), l)
	if many > 4000 {
		if code != api.ErrSteps || len(listed) != 0 || len(codes) != 0 {
			t.Errorf("P16.1: %d codes: %s, %s, %d", many, short(listed), short(codes), code)
		}
		return
	}
	if code != api.OK || len(codes) != many {
		t.Errorf("P16.1: %d codes: %d, %d", many, len(codes), code)
	}
}

// P16.1: just MaxProof codes and one more: numbers alone, with saves and back references, each of these being the code that is one too many.
func TestCodesLimit(t *testing.T) {
	for _, many := range []int{1, 2, 3998, 3999, 4000, 4001, 4002, 8000} {
		codesAre(t, chain(many), many)
		codesAre(t, append(chain(many), api.Node{Label: "out", Kids: []int{-1}}, api.Node{Label: "g"}), 1)
		codesAre(t, wide(many-1), many)
	}
	for many := 1320; many < 1350; many++ {
		codesAre(t, doubled(many), 3*many)
		above := append(doubled(many), api.Node{Label: "j", Kids: []int{many}})
		codesAre(t, above, 3*many+1)
		codesAre(t, append(above, api.Node{Label: "j", Kids: []int{many + 1}}), 3*many+2)
	}
	// The part of two labels is saved behind the others, and called back behind that.
	for ahead := 3980; ahead < 4010; ahead++ {
		l := chain(ahead)
		last := api.Node{Label: "r", Kids: []int{ahead - 1, ahead + 1, ahead + 1, ahead + 1}}
		codesAre(t, append(l, api.Node{Label: "x"}, api.Node{Label: "y", Kids: []int{ahead}}, last), ahead+6)
	}
}

// R12: ErrTree comes ahead of ErrSteps in Nodes, wherever the fault is.
func TestTreeAheadOfSteps(t *testing.T) {
	for _, long := range [][]api.Node{chain(4001), chain(9000), doubled(2000)} {
		for _, at := range []int{0, 1, 17, len(long) / 2, len(long) - 2, len(long) - 1} {
			for _, kid := range []int{-1, at, at + 1, len(long)} {
				l := slices.Clone(long)
				l[at].Kids = append(slices.Clone(l[at].Kids), kid)
				noTree(t, mandatory("h"), l)
			}
		}
	}
	broad := wide(5000)
	broad[1].Kids[4999] = 1
	noTree(t, mandatory("h"), broad)
}

// P16.1, R12: just MaxProof labels and one more; ErrSteps comes ahead of ErrTree in Labels.
func TestLabelsLimit(t *testing.T) {
	b := loaded(t, bareTheorem("?"))
	c := contextOf(t, b, "t")
	for _, many := range []int{1, 2, 1999, 2000, 2001, 3999, 4000} {
		labels := append([]string{"g"}, slices.Repeat([]string{"j"}, many-1)...)
		_, codes, code := Labels(b, c, labels)
		if len(codes) != many || code != api.OK {
			t.Errorf("P16.1: %d labels: %d codes, %d", many, len(codes), code)
		}
	}
	for _, labels := range [][]string{
		append([]string{"g"}, slices.Repeat([]string{"j"}, 4000)...), slices.Repeat([]string{"g"}, 4001), make([]string, 4001), slices.Repeat([]string{"no"}, 4001),
		slices.Repeat([]string{"?"}, 5000), slices.Repeat([]string{"j"}, 4001), append([]string{"g"}, slices.Repeat([]string{"g", "d"}, 2000)...),
	} {
		if listed, codes, code := Labels(b, c, labels); len(listed) != 0 || len(codes) != 0 || code != api.ErrSteps {
			t.Errorf("P16.1: %d labels %.20q..: %s, %s, %d", len(labels), labels, short(listed), short(codes), code)
		}
	}
	for _, labels := range [][]string{slices.Repeat([]string{"g"}, 4000), make([]string, 4000), slices.Repeat([]string{"j"}, 4000)} {
		if _, _, code := Labels(b, c, labels); code != api.ErrTree {
			t.Errorf("P16.1: %d labels %.20q..: %d", len(labels), labels, code)
		}
	}
	// 2047 labels that are doubles of doubles.
	labels := []string{"g"}
	for range 10 {
		labels = append(slices.Repeat(labels, 2), "d")
	}
	if _, codes, code := Labels(b, c, labels); len(labels) != 2047 || !slices.Equal(codes, doubledCodes(10, 2)) || code != api.OK {
		t.Errorf("P16.1: a double of doubles: %v, %d", codes, code)
	}
}

// P16.2, P16.3: thirty nodes and more, each holding the one below it twice, are folded at once, shared or written twice.
func TestDoubled(t *testing.T) {
	for _, many := range []int{1, 2, 3, 10, 11, 29, 30, 31, 32, 33, 62, 63, 64, 65, 128, 1000, 1333} {
		want := doubledCodes(many, 2)
		twice := []api.Node{{Label: "g"}, {Label: "g"}}
		for n := range many {
			twice = append(twice, api.Node{Label: "d", Kids: []int{2 * n, 2*n + 1}}, api.Node{Label: "d", Kids: []int{2*n + 1, 2 * n}})
		}
		for _, l := range [][]api.Node{doubled(many), twice} {
			listed, codes, code := Nodes(mandatory("h", "i"), l)
			if !slices.Equal(listed, []string{"g", "d"}) || !slices.Equal(codes, want) || code != api.OK {
				t.Errorf("P16.2: %d doublings: %q, %s, %d", many, listed, short(codes), code)
			}
		}
	}
}

// Proved theorems whose unfolded proofs are beyond all numbers keep their verdict and are folded (P0.3).
func TestDoubledTheorems(t *testing.T) {
	for _, many := range []int{2, 30, 100, 1333} {
		want, _ := proof.Packed([]string{"g", "d"}, doubledCodes(many, 2))
		// The same with the leaf saved and called back.
		idle := []int{2}
		for n := range many {
			idle = append(idle, api.CodeSave, 4+n, 3)
		}
		text, _ := proof.Packed([]string{"g", "d"}, idle)
		for _, words := range []string{want, text} {
			b := loaded(t, bareTheorem(words))
			n, _ := b.Find("t")
			v, _ := verify.Theorem(b, n)
			if got, code := Text(b, n); got != want || code != api.OK || v.Code != api.OK {
				t.Errorf("P0.3: %d doublings: %s, %d, %v", many, short(got), code, v)
			}
		}
	}
}

// Time hangs on the number of nodes: long lists of all sorts, few of whose parts differ or many, at once and without calls within calls.
func TestLongLists(t *testing.T) {
	const long = 100000
	comb, other := []api.Node{{Label: "g"}}, []api.Node{{Label: "g"}}
	for n := 1; n < long; n++ {
		comb = append(comb, api.Node{Label: "b", Kids: []int{n - 1, 0, n - 1, n / 2}})
		other = append(other, api.Node{Label: "l" + strconv.Itoa(n%1000), Kids: []int{0, n / 2}})
	}
	for _, l := range [][]api.Node{chain(long), doubled(long), comb, wide(long)} {
		codesAre(t, l, long)
	}
	codesAre(t, other, 1+2*17) // the root holds the half of its number, that one its half, and so on down to 1
	// Many equal nodes, many that do not belong, and a wide one of them twice.
	equal := slices.Repeat([]api.Node{{Label: "g"}}, long)
	codesAre(t, append(equal[:long:long], api.Node{Label: "r", Kids: []int{0, 5, long - 1}}), 4)
	pairs := slices.Clone(equal)
	for n := range long / 2 {
		pairs = append(pairs, api.Node{Label: "d", Kids: []int{n, long - 1 - n}})
	}
	codesAre(t, append(pairs, api.Node{Label: "d", Kids: []int{long, len(pairs) - 1}}), 6)
	codesAre(t, append(wide(3000), wide(3000)[1], api.Node{Label: "d", Kids: []int{1, 2}}), 3004)
}
