package tree

import (
	"slices"
	"strconv"
	"strings"
	"testing"

	"lemma/api"
)

// P13.8: long lists: chains, combs, wide ones, ones that double and go back, in every call; deep ones take no calls within calls.
func TestLongLists(t *testing.T) {
	const long = 100000
	comb := []api.Node{{Label: "a"}}
	back := []api.Node{{Label: "a"}}
	for n := 1; n < long; n++ {
		comb = append(comb, api.Node{Label: "b", Kids: []int{n - 1, 0, n - 1, n / 2}})
		back = append(back, api.Node{Label: "l" + strconv.Itoa(n%1000), Kids: []int{0, n / 2}})
	}
	for name, l := range map[string][]api.Node{"chain": chain(long), "doubling": doubling(long), "comb": comb} {
		if Size(l) != 2001 || Depth(l) != long || len(Share(l)) != long || !Same(l, l) || Same(l, l[1:]) || Same(l, l[:long-1]) {
			t.Errorf("P13.8: %s: %d, %d, %d", name, Size(l), Depth(l), len(Share(l)))
		}
		if _, small := Labels(l); small {
			t.Errorf("P13.5: %s", name)
		}
	}
	if x := toldBy(back); !Same(back, back) || x.depth != 18 || !x.small {
		t.Errorf("P13.8: %d, %d", x.size, x.depth)
	}
	broad := append(wide(long), api.Node{Label: "w", Kids: slices.Repeat([]int{1, 0}, long)})
	if Size(broad) != 2001 || Depth(broad) != 3 || len(Share(broad)) != 3 || len(Share(broad)[2].Kids) != 2*long || Same(broad, broad[:2]) {
		t.Errorf("P13.8: wide: %d, %d", Size(broad), Depth(broad))
	}
	// Many nodes that are equal, and many that do not belong.
	equal := append(slices.Repeat([]api.Node{{Label: "a"}}, long), api.Node{Label: "r", Kids: upTo(long)})
	if shared := Share(equal); len(shared) != 2 || len(shared[1].Kids) != long || Size(equal) != 2001 || Depth(equal) != 2 {
		t.Errorf("P13.8: equal ones: %d", len(shared))
	}
	if x := holds(t, append(equal[:100:100], nodes("b")...)); x.shared != "b" {
		t.Errorf("P13.8: nodes that do not belong: %v", x)
	}
}

// P13.8: long proofs and long lists in a context of many hypotheses.
func TestLongProofs(t *testing.T) {
	const long = 50000
	b := loaded(t, "$c w $. $v x y $. wx $f w x $. wy $f w y $. ${ e1 $e w x $. e2 $e w x $. mp $a w x $. $} ax $a w x $. t $p w x $= wx $.")
	c := contextOf(t, b, "t")
	for i := range long {
		c.Hyps = append(c.Hyps, api.Hyp{Label: "h" + strconv.Itoa(i), Expr: []int{0, i}})
	}
	var words []string
	for i := range long {
		words = append(words, "h"+strconv.Itoa(i))
	}
	l, code := Of(b, c, api.Proof{Form: api.FormPacked, Labels: tokens(append(words, "ax")...), Codes: coded(long, long+1, long+1)})
	if code != api.OK || text(l) != "h"+strconv.Itoa(long-1)+"; ax 0; ax 1" {
		t.Errorf("P13.8: long brackets: %q, %d", text(l), code)
	}
	// Each of the hypotheses waits on the stack, and is never taken.
	if _, code := Of(b, c, api.Proof{Labels: tokens(words...)}); code != api.ErrTree {
		t.Errorf("P13.1: %d entries: %d", long, code)
	}
	plain := strings.Repeat("wx wx ", long) + "wx" + strings.Repeat(" mp", long)
	l, code = Of(b, c, parsed(plain))
	if code != api.OK || len(l) != 3*long+1 || Depth(l) != long+1 {
		t.Errorf("P13.8: a deep stack: %d nodes, %d", len(l), code)
	}
	proved, code := Conclude(b, c, l)
	if code != api.OK || len(proved) != len(l) || !slices.Equal(proved[len(l)-1], c.Goal) {
		t.Errorf("P13.8: %d proved, %d", len(proved), code)
	}
	// A wx, B mp, C ax, D on the saved ones: each step with all its parts saved.
	codes := []int{0, api.CodeSave}
	for n := range long {
		codes = append(codes, 3+n, 3+n, 1, api.CodeSave)
	}
	l, code = Of(b, c, api.Proof{Form: api.FormPacked, Labels: tokens("mp", "ax"), Codes: coded(codes...)})
	if code != api.OK || len(l) != long+1 || Size(l) != 2001 || Depth(l) != long+1 || len(Share(l)) != long+1 {
		t.Errorf("P13.8: saved each time: %d nodes, %d", len(l), code)
	}
}
