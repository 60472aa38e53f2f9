package fold

import (
	"slices"
	"strings"
	"testing"

	"lemma/api"
	"lemma/base"
	"lemma/proof"
	"lemma/tree"
	"lemma/unfold"
	"lemma/verify"
)

// replaced is a base's text with other words in the place of all proofs of which there are some.
func replaced(b *base.Base, words []string) string {
	text := b.Text()
	for n := len(words) - 1; n >= 0; n-- {
		if a, _ := b.At(n); words[n] != "" {
			text = text[:a.Proof[0].At.Off] + words[n] + " " + text[a.End.At.Off:]
		}
	}
	return text
}

// stepsOf tells how many codes a packed proof has, or labels a plain one.
func stepsOf(a api.Assertion) int {
	p := proof.Parse(a.Proof, a.End)
	if p.Form == api.FormPacked {
		return len(p.Codes)
	}
	return len(p.Labels)
}

// applied tells by P16.4 how many assertions the folded proof applies.
func (r *reading) applied(b *base.Base) int {
	many := 0
	for n, first := range r.first {
		at, asserted := b.Find(r.l[n].Label)
		if n != first || !asserted {
			continue
		}
		if a, _ := b.At(at); len(a.Frame.Hyps) > 0 || n == len(r.l)-1 {
			many++
			continue
		}
		many += r.places[n]
	}
	return many
}

// theoremHolds holds all that the chapter says of a number but what is told in another base; it tells which error Packed answers, or ErrUnfold, if the theorem's unfolded labels are too many, or ErrDeep, if their run is too deep.
func theoremHolds(t *testing.T, b *base.Base, n int) api.Errno {
	t.Helper()
	v, code := verify.Theorem(b, n)
	if code != api.OK {
		refuses(t, b, n, api.ErrNone)
		return api.ErrNone
	}
	if v.Code != api.OK {
		refuses(t, b, n, api.ErrUnproved)
		return api.ErrUnproved
	}
	a, _ := b.At(n)
	c, _ := b.Context(n)
	l, _ := tree.Of(b, c, proof.Parse(a.Proof, a.End))
	r, _ := readOf(c, l)
	listed, codes, code := Packed(b, n)
	if code != api.OK || !slices.Equal(codes, r.codes) || !slices.Equal(listed, r.names[len(c.Mandatory):]) {
		t.Fatalf("P16.1: Packed of %s: %s, %s, %d, want %s, %s", short(a.Proof), short(listed), short(codes), code, short(r.names), short(r.codes))
	}
	text, code := Text(b, n)
	if written, _ := proof.Packed(listed, codes); text != written || code != api.OK {
		t.Fatalf("P16.1: Text of %s: %s, %d, want %s", short(a.Proof), short(text), code, short(written))
	}
	run := verify.Text(b, c, verify.Words(strings.Fields(text)), api.Token{})
	if run.Code != api.OK || run.Peak > v.Peak || len(codes) > stepsOf(a) || run.Count != r.applied(b) {
		t.Fatalf("P16.4: %s in the place of %s: %v, was %v, applied %d", short(text), short(a.Proof), run, v, r.applied(b))
	}
	return unfoldedHolds(t, b, n)
}

// unfoldedHolds holds what P0.2 says of a proved theorem's unfolded labels: folded, they are what the theorem is folded to.
func unfoldedHolds(t *testing.T, b *base.Base, n int) api.Errno {
	t.Helper()
	labels, code := unfold.Plain(b, n)
	if code != api.OK {
		return code
	}
	c, _ := b.Context(n)
	listed, codes, _ := Packed(b, n)
	again, more, code := Labels(b, c, labels)
	if code != api.OK || !slices.Equal(again, listed) || !slices.Equal(more, codes) {
		t.Fatalf("P0.2: Labels(%s): %s, %s, %d, want %s, %s", short(labels), short(again), short(more), code, short(listed), short(codes))
	}
	plain := verify.Text(b, c, verify.Words(labels), api.Token{})
	if plain.Code != api.OK && plain.Code != api.ErrDeep {
		t.Fatalf("P0.2: %s: %v", short(labels), plain)
	}
	return plain.Code
}

// baseHolds holds all theorems of a text, then all their folded proofs in their places: proved, of the same unfolded labels, and folded to the same.
func baseHolds(t *testing.T, text string, seen map[api.Errno]int) {
	t.Helper()
	b := loaded(t, text)
	words := make([]string, b.Count())
	for n := range words {
		seen[theoremHolds(t, b, n)]++
		words[n], _ = Text(b, n)
	}
	folded := loaded(t, replaced(b, words))
	for n := range words {
		was, _ := b.At(n)
		is, _ := folded.At(n)
		if words[n] == "" {
			continue
		}
		if v, _ := verify.Theorem(folded, n); v.Code != api.OK || !slices.Equal(is.Frame.Goal, was.Frame.Goal) {
			t.Fatalf("P16.4: %s in the place of %s: %v", short(words[n]), short(was.Proof), v)
		}
		if again, code := Text(folded, n); again != words[n] || code != api.OK {
			t.Fatalf("P16.3: %s, folded again: %s, %d", short(words[n]), short(again), code)
		}
		labels, code := unfold.Plain(b, n)
		after, codeAfter := unfold.Plain(folded, n)
		if code != codeAfter || !slices.Equal(labels, after) {
			t.Fatalf("P0.2: %s: %s, %d; folded, then unfolded: %s, %d", short(was.Proof), short(labels), code, short(after), codeAfter)
		}
	}
}

// theory is chapter 8's text, with its theorem's proof in both forms.
const theory = `$c ( ) -> wff |- $. $v p q r $. wp $f wff p $. wq $f wff q $. wr $f wff r $.
wi $a wff ( p -> q ) $. a1 $a |- ( p -> ( q -> p ) ) $. a2 $a |- ( ( p -> ( q -> r ) ) -> ( ( p -> q ) -> ( p -> r ) ) ) $.
${ mn $e |- p $. mj $e |- ( p -> q ) $. mp $a |- q $. $}
id $p |- ( p -> p ) $= wp wp wp wi wi wp wp wi wp wp a1 wp wp wp wi wp wi wi wp wp wp wi wi wp wp wi wi wp wp wp wi a1 wp wp wp wi wp a2 mp mp $.
same $p |- ( p -> p ) $= ( wi a1 a2 mp ) AAABZBFAACAFABBAFBFBAFCAFADEE $.
by $p |- ( p -> p ) $= ( same id ) AC $.`

// P16.4, P0.2: the same theorem, plain and packed, is folded to the same.
func TestTheory(t *testing.T) {
	seen := map[api.Errno]int{}
	baseHolds(t, theory, seen)
	b := loaded(t, theory)
	plain, _ := Text(b, 4)
	packed, code := Text(b, 5)
	if plain != packed || code != api.OK || packed != "( wi a1 a2 mp )\nAAABZBZFAACAFABBGFBAFCAFADEE" {
		t.Errorf("P16.3: %q and %q, %d", plain, packed, code)
	}
	if by, _ := Text(b, 6); by != "( id )\nAB" || seen[api.OK] != 3 || seen[api.ErrNone] != 4 {
		t.Errorf("P16.4: %q, %v", by, seen)
	}
}

// bareTexts lays theorems of bare on texts that each may be loaded.
func bareTexts(proofs []string) []string {
	var texts []string
	for batch := range slices.Chunk(proofs, 60) {
		text := bare
		for i, words := range batch {
			text += "t" + letters(i) + " $p w $= " + words + " $.\n"
		}
		texts = append(texts, text+"$}")
	}
	return texts
}

// letters writes a number.
func letters(n int) string {
	text, _ := proof.Packed(nil, []int{n})
	return strings.Fields(text)[2]
}

// grown gives all letters of at most so many more codes that leave one entry, behind some that left so many entries and saved so many: h, j, d, back references, and saves.
func grown(letters string, more, entries, saves int) []string {
	var all []string
	if entries == 1 {
		all = append(all, letters)
	}
	if more == 0 {
		return all
	}
	next := func(letter byte, entries, saves int) {
		all = append(all, grown(letters+string(letter), more-1, entries, saves)...)
	}
	next('A', entries+1, saves)
	for back := range saves {
		next(byte('F'+back), entries+1, saves)
	}
	if entries > 0 {
		next('D', entries, saves)
	}
	if entries > 1 {
		next('E', entries-1, saves)
	}
	if entries > 0 && !strings.HasSuffix(letters, "Z") {
		next('Z', entries, saves+1)
	}
	return all
}

// P16.1 to P16.5, P0.2: all short packed proofs in bare that leave one entry.
func TestGrown(t *testing.T) {
	var proofs []string
	for _, letters := range grown("", 9, 0, 0) {
		proofs = append(proofs, "( g j d ) "+letters)
	}
	seen := map[api.Errno]int{}
	for _, text := range bareTexts(proofs) {
		baseHolds(t, text, seen)
	}
	if seen[api.OK] != len(proofs) || len(proofs) < 3000 {
		t.Errorf("%d of %d proofs are folded", seen[api.OK], len(proofs))
	}
}

// P16.1 to P16.5, P0.2: all short proofs in bare, packed and plain, whatever they leave.
func TestShortProofs(t *testing.T) {
	var proofs []string
	for _, codes := range shortLists(4, "A", "C", "D", "E", "F", "G", "Z") {
		proofs = append(proofs, "( g j d ) "+strings.Join(codes, ""))
	}
	for _, labels := range shortLists(5, "g", "h", "j", "d", "c") {
		proofs = append(proofs, strings.Join(labels, " "))
	}
	seen := map[api.Errno]int{}
	for _, text := range bareTexts(proofs) {
		baseHolds(t, text, seen)
	}
	came(t, seen, 100, api.OK, api.ErrUnproved)
}

// packed makes codes whose stack has at most height entries and one at last. takes has how many entries each number ahead of the saves takes; one that takes two is there, and is laid behind all.
func (r *rule) packed(takes []int, steps, height int) []int {
	var codes []int
	now, saves := 0, 0
	add := func(n, taken int) {
		codes = append(codes, n)
		now += 1 - taken
	}
	for range steps {
		n := r.below(len(takes))
		switch pick := r.below(10); {
		case pick < 3 && saves > 0 && now < height:
			add(len(takes)+saves-1-r.below(min(saves, 3)), 0)
		case takes[n] <= now && now-takes[n] < height:
			add(n, takes[n])
		default:
			continue
		}
		if r.below(3) == 0 {
			codes = append(codes, api.CodeSave)
			saves++
		}
	}
	for now > 1 {
		add(slices.Index(takes, 2), 2)
	}
	return codes
}

// P16.1 to P16.5, P0.2, P0.3: long proofs in bare by a rule, many of them great, many deep when unfolded; and plain ones made of them.
func TestLongProofs(t *testing.T) {
	r := rule(164)
	var proofs []string
	for try := range 600 {
		codes := r.packed([]int{0, 0, 0, 1, 2, 3}, 2+r.below(50*(1+try%5)), []int{3, 10, 30, 40}[r.below(4)])
		text, _ := proof.Packed([]string{"g", "j", "d", "c"}, codes)
		proofs = append(proofs, text)
	}
	seen, plain := map[api.Errno]int{}, map[api.Errno]int{}
	var again []string
	for _, text := range bareTexts(proofs) {
		baseHolds(t, text, seen)
		b := loaded(t, text)
		for n := range b.Count() {
			if text, code := unfold.Text(b, n); code == api.OK && len(text) < 600 {
				again = append(again, text)
			}
		}
	}
	came(t, seen, 20, api.OK, api.ErrDeep, api.ErrUnfold)
	for _, text := range bareTexts(again) {
		baseHolds(t, text, plain)
	}
	came(t, plain, 100, api.OK)
}

// strung is a logic of strings laid one behind the other, some of them distinct; the essential hypothesis makes all variables mandatory.
const strung = `$c w a $. $v x y z $. wx $f w x $. wy $f w y $. wz $f w z $.
wa $a w a $. dbl $a w x x $. cat $a w x y $. ${ $d x y $. far $a w x a y $. $}
${ $d x z $. $d y z $. h $e w x y z $. t $p w`

// P16.1 to P16.5, P0.2: proofs by a rule in a logic with strings, of whatever goal they prove.
func TestStrungProofs(t *testing.T) {
	r := rule(165)
	open := loaded(t, strung+" $= ? $. $}")
	c, _ := open.Context(4)
	seen := map[api.Errno]int{}
	for range 1500 {
		codes := r.packed([]int{0, 0, 0, 0, 0, 1, 2, 2}, 2+r.below(60), 2+r.below(12))
		text, _ := proof.Packed([]string{"wa", "dbl", "cat", "far"}, codes)
		l, code := tree.Of(open, c, proof.Parse(verify.Words(strings.Fields(text)), api.Token{}))
		if code != api.OK {
			continue
		}
		proved, _ := tree.Conclude(open, c, l)
		goal := open.Print(proved[len(proved)-1][1:])
		baseHolds(t, strung+" "+goal+" $= "+text+" $. $}", seen)
	}
	came(t, seen, 300, api.OK)
	if seen[api.ErrUnproved] > 0 {
		t.Errorf("proofs of their goals are not proved: %v", seen)
	}
}

// P16.4: a proof with just MaxProof steps, many of them idle saves, and a plain one, are folded to as many steps or fewer.
func TestLongestProofs(t *testing.T) {
	seen := map[api.Errno]int{}
	for _, words := range []string{
		"g" + strings.Repeat(" j", 3999), "( g j ) C" + strings.Repeat("D", 3999), "( g j ) C" + strings.Repeat("ZD", 1999) + "Z",
		"( g j d ) CDZF" + strings.Repeat("D", 3994) + "EZ",
	} {
		baseHolds(t, bareTheorem(words), seen)
	}
	if seen[api.OK]+seen[api.ErrUnfold] != 4 {
		t.Errorf("P16.4: %v", seen)
	}
}

// P0.2: a deep unfolded run: the folded text is proved all the same.
func TestDeep(t *testing.T) {
	for _, side := range []int{20, 21, 30, 40} {
		hyps := ""
		for i := range side {
			hyps += "e" + letters(i) + " $e w $. "
		}
		words := "( g m ) " + strings.Repeat("A", side) + "BZ" + strings.Repeat("C", side-1) + "B"
		seen := map[api.Errno]int{}
		baseHolds(t, "$c w $. g $a w $. ${ "+hyps+"m $a w $. $} t $p w $= "+words+" $.", seen)
		if want := api.ErrDeep; side > 20 && seen[want] != 1 || side == 20 && seen[api.OK] != 1 {
			t.Errorf("P0.2: %d hypotheses: %v", side, seen)
		}
	}
}

// P16.4: what is counted: each different part with hypotheses once, one without at each place.
func TestCount(t *testing.T) {
	for words, want := range map[string]int{
		"h": 0, "g": 1, "g g d": 3, "g j g j d": 3, "h j h j d": 2, "g g d g g d d": 4, "( g d ) CZED": 3, "h i d": 1, "g g g c": 4, "h h j g c": 3, "g g d g d g g d g d d": 6,
	} {
		b := loaded(t, bareTheorem(words))
		n, _ := b.Find("t")
		c, _ := b.Context(n)
		text, _ := Text(b, n)
		if v := verify.Text(b, c, verify.Words(strings.Fields(text)), api.Token{}); v.Code != api.OK || v.Count != want {
			t.Errorf("P16.4: %q, folded to %q: %v, want %d", words, text, v, want)
		}
	}
}
