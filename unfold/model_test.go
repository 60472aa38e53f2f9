package unfold

import (
	"math/big"
	"slices"
	"strings"
	"testing"

	"lemma/api"
	"lemma/base"
	"lemma/proof"
	"lemma/tree"
	"lemma/verify"
)

// part is what lies on the stack of the second reading: how many labels it has, counted in full, and them, if they are few.
type part struct {
	size   *big.Int
	labels []string
}

// reading is a second reading of what the chapter says, from the words on, letter by letter: with neither nodes nor runs, each part carries its own labels.
type reading struct {
	b       *base.Base
	names   []string
	entries []part
	saved   []part
}

// readOf reads a proved theorem.
func readOf(b *base.Base, n int) part {
	a, _ := b.At(n)
	r := &reading{b: b}
	words := a.Proof
	if words[0].Text != "(" {
		for _, word := range words {
			r.label(word.Text)
		}
		return r.entries[0]
	}
	for _, h := range a.Frame.Hyps {
		r.names = append(r.names, h.Label)
	}
	for words = words[1:]; words[0].Text != ")"; words = words[1:] {
		r.names = append(r.names, words[0].Text)
	}
	number := 0
	for _, word := range words[1:] {
		for _, letter := range []byte(word.Text) {
			number = r.letter(letter, number)
		}
	}
	return r.entries[0]
}

// letter takes a letter, behind a number's first digits, and gives these digits for the next one.
func (r *reading) letter(letter byte, ahead int) int {
	switch n := ahead*20 + int(letter-'A'); {
	case letter == 'Z':
		r.saved = append(r.saved, r.entries[len(r.entries)-1])
	case letter >= 'U':
		return ahead*5 + int(letter-'U') + 1
	case n < len(r.names):
		r.label(r.names[n])
	default:
		r.entries = append(r.entries, r.saved[n-len(r.names)])
	}
	return 0
}

// label takes the parts of a label off the stack and lays the whole on it.
func (r *reading) label(label string) {
	at := len(r.entries) - hypsOf(r.b, label)
	made := part{size: big.NewInt(1)}
	for _, p := range r.entries[at:] {
		made.size.Add(made.size, p.size)
	}
	if made.size.Cmp(big.NewInt(2000)) <= 0 {
		for _, p := range r.entries[at:] {
			made.labels = append(made.labels, p.labels...)
		}
		made.labels = append(made.labels, label)
	}
	r.entries = append(r.entries[:at:at], made)
}

// hypsOf tells how many parts a label has.
func hypsOf(b *base.Base, label string) int {
	n, asserted := b.Find(label)
	if !asserted {
		return 0
	}
	a, _ := b.At(n)
	return len(a.Frame.Hyps)
}

// deepest tells how many entries a plain proof's stack has at most.
func deepest(b *base.Base, labels []string) int {
	now, most := 0, 0
	for _, label := range labels {
		now += 1 - hypsOf(b, label)
		most = max(most, now)
	}
	return most
}

// asserted tells how many labels name assertions.
func asserted(b *base.Base, labels []string) int {
	many := 0
	for _, label := range labels {
		if _, found := b.Find(label); found {
			many++
		}
	}
	return many
}

// holds holds all that the chapter says of the number n, and tells which of the chapter's errors Plain answers, or ErrDeep, if the unfolded run is deeper than may be.
func holds(t *testing.T, b *base.Base, n int) api.Errno {
	t.Helper()
	v, code := verify.Theorem(b, n)
	if code != api.OK {
		refuses(t, b, n, api.ErrNone)
		return api.ErrNone
	}
	if v.Code != api.OK {
		refuses(t, b, n, api.ErrUnproved)
		return api.ErrUnproved
	}
	want := readOf(b, n)
	if want.labels == nil {
		tooLong(t, b, n)
		return api.ErrUnfold
	}
	unfoldsTo(t, b, n, want.labels)
	return runHolds(t, b, n, v)
}

// runHolds holds 15.4 and 15.5 of a theorem that can be unfolded and has this verdict.
func runHolds(t *testing.T, b *base.Base, n int, v api.Verdict) api.Errno {
	t.Helper()
	labels, _ := Plain(b, n)
	a, _ := b.At(n)
	c, _ := b.Context(n)
	words := verify.Words(labels)
	run := verify.Text(b, c, words, api.Token{Text: "$."})
	wantCode := api.OK
	if deepest(b, labels) > api.MaxStack {
		wantCode = api.ErrDeep
	}
	if run.Code != wantCode {
		t.Fatalf("15.4: %.300q, run as a plain proof: %v, want %d", labels, run, wantCode)
	}
	text, _ := Text(b, n)
	if again := verify.Text(b, c, verify.Words(strings.Fields(text)), api.Token{Text: "$."}); again != run {
		t.Fatalf("15.3, 15.4: %.300q, run as a plain proof: %v, want %v", text, again, run)
	}
	whole, code := tree.Of(b, c, proof.Parse(words, api.Token{}))
	own, ownCode := tree.Of(b, c, proof.Parse(a.Proof, a.End))
	if code != api.OK || ownCode != api.OK || !tree.Same(whole, own) {
		t.Fatalf("15.4: %.300q denotes another derivation than %.300v", labels, a.Proof)
	}
	plain := a.Proof[0].Text != "("
	if plain && !slices.EqualFunc(labels, a.Proof, func(label string, word api.Token) bool { return label == word.Text }) {
		t.Fatalf("15.4: a plain proof unfolds to %.300q", labels)
	}
	applied := asserted(b, labels)
	if run.Code == api.OK && applied != run.Count || applied < v.Count || plain && applied != v.Count {
		t.Fatalf("15.5: %d assertions among %.300q, the plain run applies %d, the theorem's own %d", applied, labels, run.Count, v.Count)
	}
	return run.Code
}

// came holds each of the codes to have come often enough.
func came(t *testing.T, seen map[api.Errno]int, least int, codes ...api.Errno) {
	t.Helper()
	for _, code := range codes {
		if seen[code] < least {
			t.Errorf("the code %d came %d times: it is hardly tried", code, seen[code])
		}
	}
}

// theory is chapter 8's text, with its theorem's proof in both forms.
const theory = `$c ( ) -> wff |- $. $v p q r $. wp $f wff p $. wq $f wff q $. wr $f wff r $.
wi $a wff ( p -> q ) $. a1 $a |- ( p -> ( q -> p ) ) $. a2 $a |- ( ( p -> ( q -> r ) ) -> ( ( p -> q ) -> ( p -> r ) ) ) $.
${ mn $e |- p $. mj $e |- ( p -> q ) $. mp $a |- q $. $}
id $p |- ( p -> p ) $= wp wp wp wi wi wp wp wi wp wp a1 wp wp wp wi wp wi wi wp wp wp wi wi wp wp wi wi wp wp wp wi a1 wp wp wp wi wp a2 mp mp $.
same $p |- ( p -> p ) $= ( wi a1 a2 mp ) AAABZBFAACAFABBAFBFBAFCAFADEE $.
by $p |- ( p -> p ) $= ( same id ) AC $.`

// 15.4: the same theorem, plain and packed, unfolds to the same labels; what its own runs applied is told apart (15.5).
func TestTheory(t *testing.T) {
	b := loaded(t, theory)
	for n := range b.Count() {
		holds(t, b, n)
	}
	plain, _ := Plain(b, 4)
	same, code := Plain(b, 5)
	if code != api.OK || len(same) != 40 || !slices.Equal(plain, same) {
		t.Errorf("15.4: the packed proof unfolds to %q", same)
	}
	own, _ := verify.Theorem(b, 5)
	if asserted(b, same) != 17 || own.Count != 11 {
		t.Errorf("15.5: 17 assertions among the labels, the packed run applied 11: %d, %v", asserted(b, same), own)
	}
	unfoldsTo(t, b, 6, []string{"wp", "id"})
}

// bareTexts lays so many theorems of bare on texts that each may be loaded.
func bareTexts(proofs []string) []string {
	var texts []string
	for batch := range slices.Chunk(proofs, 60) {
		text := bare
		for i, words := range batch {
			text += "t" + letters(i) + " $p w $= " + words + " $.\n"
		}
		texts = append(texts, text+"$}")
	}
	return texts
}

// shortLists gives every list of at most so many items.
func shortLists[T any](most int, items ...T) [][]T {
	all := [][]T{nil}
	for from := 0; len(all[from]) < most; from++ {
		for _, item := range items {
			all = append(all, append(slices.Clone(all[from]), item))
		}
	}
	return all
}

// grown gives all letters of at most so many more codes that leave one entry, behind some that left so many entries and saved so many: h, j, d, back references, and saves.
func grown(letters string, more, entries, saves int) []string {
	var all []string
	if entries == 1 {
		all = append(all, letters)
	}
	if more == 0 {
		return all
	}
	next := func(letter byte, entries, saves int) {
		all = append(all, grown(letters+string(letter), more-1, entries, saves)...)
	}
	next('A', entries+1, saves)
	for back := range saves {
		next(byte('F'+back), entries+1, saves)
	}
	if entries > 0 {
		next('D', entries, saves)
	}
	if entries > 1 {
		next('E', entries-1, saves)
	}
	if entries > 0 && !strings.HasSuffix(letters, "Z") {
		next('Z', entries, saves+1)
	}
	return all
}

// 15.1 to 15.5: all short packed proofs in bare that leave one entry.
func TestGrown(t *testing.T) {
	var proofs []string
	for _, letters := range grown("", 9, 0, 0) {
		proofs = append(proofs, "( g j d ) "+letters)
	}
	proved := 0
	for _, text := range bareTexts(proofs) {
		b := loaded(t, text)
		for n := range b.Count() {
			if holds(t, b, n) == api.OK {
				proved++
			}
		}
	}
	if proved != len(proofs) || proved < 3000 {
		t.Errorf("%d of %d proofs are unfolded", proved, len(proofs))
	}
}

// 15.1 to 15.5: all short proofs in bare, packed and plain, whatever they leave.
func TestShort(t *testing.T) {
	var proofs []string
	for _, codes := range shortLists(5, "A", "C", "D", "E", "F", "G", "Z") {
		proofs = append(proofs, "( g j d ) "+strings.Join(codes, ""))
	}
	for _, labels := range shortLists(5, "g", "h", "j", "d", "c") {
		proofs = append(proofs, strings.Join(labels, " "))
	}
	seen := map[api.Errno]int{}
	for _, text := range bareTexts(proofs) {
		b := loaded(t, text)
		for n := range b.Count() {
			seen[holds(t, b, n)]++
		}
	}
	came(t, seen, 200, api.OK, api.ErrUnproved)
}

// rule makes numbers by a fixed rule, the same in every run.
type rule uint64

func (r *rule) below(n int) int {
	*r = *r*6364136223846793005 + 1442695040888963407
	return int(uint64(*r)>>33) % n
}

// packed makes codes whose stack has at most height entries and one at last. takes has how many entries each number ahead of the saves takes; one that takes two is there, and is laid behind all.
func (r *rule) packed(takes []int, steps, height int) []int {
	var codes []int
	now, saves := 0, 0
	add := func(n, taken int) {
		codes = append(codes, n)
		now += 1 - taken
	}
	for range steps {
		n := r.below(len(takes))
		switch pick := r.below(10); {
		case pick < 3 && saves > 0 && now < height:
			add(len(takes)+saves-1-r.below(min(saves, 3)), 0)
		case takes[n] <= now && now-takes[n] < height:
			add(n, takes[n])
		default:
			continue
		}
		if r.below(3) == 0 {
			codes = append(codes, api.CodeSave)
			saves++
		}
	}
	for now > 1 {
		add(slices.Index(takes, 2), 2)
	}
	return codes
}

// 15.1 to 15.5: long proofs in bare by a rule, many of them great, many deep when unfolded; and plain ones made of them.
func TestLongByRule(t *testing.T) {
	r := rule(15)
	var proofs []string
	for try := range 1200 {
		codes := r.packed([]int{0, 0, 0, 1, 2, 3}, 2+r.below(50*(1+try%5)), []int{3, 10, 30, 40}[r.below(4)])
		text, _ := proof.Packed([]string{"g", "j", "d", "c"}, codes)
		proofs = append(proofs, text)
	}
	seen := map[api.Errno]int{}
	var again []string
	for _, text := range bareTexts(proofs) {
		b := loaded(t, text)
		for n := range b.Count() {
			seen[holds(t, b, n)]++
			if text, code := Text(b, n); code == api.OK && len(text) < 150 {
				again = append(again, text)
			}
		}
	}
	came(t, seen, 50, api.OK, api.ErrDeep, api.ErrUnfold)
	plain := map[api.Errno]int{}
	for _, text := range bareTexts(again) {
		b := loaded(t, text)
		for n := range b.Count() {
			plain[holds(t, b, n)]++
		}
	}
	came(t, plain, 100, api.OK)
}

// strung is a logic of strings laid one behind the other, some of them distinct; the essential hypothesis makes all variables mandatory.
const strung = `$c w a $. $v x y z $. wx $f w x $. wy $f w y $. wz $f w z $.
wa $a w a $. dbl $a w x x $. cat $a w x y $. ${ $d x y $. far $a w x a y $. $}
${ $d x z $. $d y z $. h $e w x y z $. t $p w`

// 15.1 to 15.5: proofs by a rule in a logic with strings, of whatever goal they prove.
func TestStrungByRule(t *testing.T) {
	r := rule(150)
	open := loaded(t, strung+" $= ? $. $}")
	c, _ := open.Context(4)
	seen := map[api.Errno]int{}
	for range 1500 {
		codes := r.packed([]int{0, 0, 0, 0, 0, 1, 2, 2}, 2+r.below(60), 2+r.below(12))
		text, _ := proof.Packed([]string{"wa", "dbl", "cat", "far"}, codes)
		l, code := tree.Of(open, c, proof.Parse(verify.Words(strings.Fields(text)), api.Token{}))
		if code != api.OK {
			continue
		}
		proved, _ := tree.Conclude(open, c, l)
		goal := open.Print(proved[len(proved)-1][1:])
		b := loaded(t, strung+" "+goal+" $= "+text+" $. $}")
		seen[holds(t, b, 4)]++
	}
	came(t, seen, 300, api.OK)
	if seen[api.ErrUnproved] > 0 || seen[api.ErrNone] > 0 {
		t.Errorf("proofs of their goals are not proved: %v", seen)
	}
}
