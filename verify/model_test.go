package verify

import (
	"slices"
	"strings"
	"testing"

	"lemma/api"
	"lemma/base"
	"lemma/proof"
	"lemma/tree"
)

// reading is a second reading of R7 to R9, from the words on: word by word and letter by letter, with neither proof nor machine below it; lists are formed, labels and pairs looked for one by one.
type reading struct {
	b       *base.Base
	c       api.Context
	listed  []api.Token
	entries []api.Expr
	saved   []api.Expr
	steps   int
	ahead   int  // the digits of a number that no letter has ended yet
	fresh   bool // the code ahead was a number
	count   int
	peak    int
}

// judge is what Text is to answer.
func judge(b *base.Base, c api.Context, words []api.Token, end api.Token) api.Verdict {
	r := &reading{b: b, c: c}
	code, at := r.words(words, end)
	if code == api.OK {
		at = api.Token{}
	}
	return api.Verdict{Code: code, At: at, Count: r.count, Peak: r.peak}
}

func (r *reading) words(words []api.Token, end api.Token) (api.Errno, api.Token) {
	do := r.label
	inside := false
	for i, word := range words {
		switch {
		case i == 0 && word.Text == "(":
			do, inside = r.bracket, true
			continue
		case inside && word.Text == ")":
			do, inside = r.letters, false
			continue
		}
		if code := do(word); code != api.OK {
			return code, word
		}
	}
	switch {
	case inside:
		return api.ErrList, end
	case r.ahead > 0:
		return api.ErrCut, end
	case len(r.entries) != 1:
		return api.ErrLeft, end
	case !slices.Equal(r.entries[0], r.c.Goal):
		return api.ErrGoal, end
	}
	return api.OK, end
}

// label does a step of a plain proof.
func (r *reading) label(word api.Token) api.Errno {
	if r.steps++; r.steps > 4000 {
		return api.ErrSteps
	}
	if word.Text == "?" {
		return api.ErrMissing
	}
	return r.named(word.Text)
}

// named does the step of a label.
func (r *reading) named(label string) api.Errno {
	e, f, code := r.find(label)
	switch {
	case code != api.OK:
		return code
	case f != nil:
		return r.apply(*f)
	}
	return r.lay(r.entries, e)
}

// find tells what R7.1 says of a label: an expression, or a frame.
func (r *reading) find(label string) (api.Expr, *api.Frame, api.Errno) {
	for _, h := range r.c.Hyps {
		if h.Label == label {
			return h.Expr, nil, api.OK
		}
	}
	for n := range r.b.Count() {
		if a, _ := r.b.At(n); a.Label == label {
			if n >= r.c.Before {
				return nil, nil, api.ErrLater
			}
			return nil, &a.Frame, api.OK
		}
	}
	if _, hidden := r.b.Hyp(label); hidden {
		return nil, nil, api.ErrHidden
	}
	return nil, nil, api.ErrUnknown
}

func (r *reading) bracket(word api.Token) api.Errno {
	if _, _, code := r.find(word.Text); code != api.OK {
		return code
	}
	same := func(w api.Token) bool { return w.Text == word.Text }
	if slices.ContainsFunc(r.listed, same) || slices.ContainsFunc(r.c.Mandatory, func(h api.Hyp) bool { return h.Label == word.Text }) {
		return api.ErrList
	}
	r.listed = append(r.listed, word)
	return api.OK
}

func (r *reading) letters(word api.Token) api.Errno {
	for _, letter := range []byte(word.Text) {
		if letter >= 'U' && letter <= 'Y' {
			r.ahead = min(r.ahead*5+int(letter-'U')+1, 1<<40)
			continue
		}
		if r.steps++; r.steps > 4000 {
			return api.ErrSteps
		}
		if code := r.letter(letter); code != api.OK {
			return code
		}
		r.fresh = letter != 'Z'
	}
	return api.OK
}

// letter does what a letter that ends a code says.
func (r *reading) letter(letter byte) api.Errno {
	switch {
	case letter >= 'A' && letter <= 'T':
		n := r.ahead*20 + int(letter-'A')
		r.ahead = 0
		return r.number(n)
	case r.ahead > 0 || letter != 'Z' && letter != '?':
		return api.ErrLetters
	case letter == '?':
		return api.ErrMissing
	case !r.fresh:
		return api.ErrSave
	}
	r.saved = append(r.saved, r.entries[len(r.entries)-1])
	return api.OK
}

func (r *reading) number(n int) api.Errno {
	mandatory, known := len(r.c.Mandatory), len(r.c.Mandatory)+len(r.listed)
	switch {
	case n < mandatory:
		return r.lay(r.entries, r.c.Mandatory[n].Expr)
	case n < known:
		return r.named(r.listed[n-mandatory].Text)
	case n-known < len(r.saved):
		return r.lay(r.entries, r.saved[n-known])
	}
	return api.ErrNumber
}

func (r *reading) lay(below []api.Expr, e api.Expr) api.Errno {
	if len(below) == 40 {
		return api.ErrDeep
	}
	r.entries = slices.Concat(below, []api.Expr{e})
	r.peak = max(r.peak, len(r.entries))
	return api.OK
}

func (r *reading) apply(f api.Frame) api.Errno {
	at := len(r.entries) - len(f.Hyps)
	if at < 0 {
		return api.ErrUnder
	}
	made, code := concluded(f, r.entries[at:], r.c.Pairs, r.b.IsVar)
	if code == api.OK {
		code = r.lay(r.entries[:at], made)
	}
	if code == api.OK {
		r.count++
	}
	return code
}

// concluded tells what a frame makes of as many expressions as it has hypotheses.
func concluded(f api.Frame, last []api.Expr, pairs []api.Pair, vars func(int) bool) (api.Expr, api.Errno) {
	put := map[int]api.Expr{}
	for i, h := range f.Hyps {
		if h.Floating {
			if len(last[i]) == 0 || last[i][0] != h.Expr[0] {
				return nil, api.ErrKind
			}
			put[h.Var] = last[i][1:]
		}
	}
	for i, h := range f.Hyps {
		if !h.Floating && !slices.Equal(formed(h.Expr, put), last[i]) {
			return nil, api.ErrHyp
		}
	}
	for _, p := range f.Pairs {
		for _, a := range put[p.A] {
			for _, b := range put[p.B] {
				had := slices.Contains(pairs, api.Pair{A: a, B: b}) || slices.Contains(pairs, api.Pair{A: b, B: a})
				if vars(a) && vars(b) && (a == b || !had) {
					return nil, api.ErrApart
				}
			}
		}
	}
	goal := formed(f.Goal, put)
	if len(goal) > 200 {
		return nil, api.ErrTooLong
	}
	return goal, api.OK
}

func formed(e api.Expr, put map[int]api.Expr) api.Expr {
	var made api.Expr
	for _, x := range e {
		if string, bound := put[x]; bound {
			made = append(made, string...)
		} else {
			made = append(made, x)
		}
	}
	return made
}

// accepted tells by the derivation alone whether a proof is to be accepted (P14.2): the words denote one of the goal, and the run keeps within the limits. It tells too how many assertions the steps name (P14.4).
func accepted(b *base.Base, c api.Context, words []api.Token) (bool, int) {
	p := proof.Parse(words, behind)
	nodes, code := tree.Of(b, c, p)
	steps := len(p.Labels)
	if p.Form == api.FormPacked {
		steps = len(p.Codes)
	}
	if code != api.OK || steps > 4000 {
		return false, 0
	}
	proved, code := tree.Conclude(b, c, nodes)
	if code != api.OK || !slices.Equal(proved[len(proved)-1], c.Goal) || deepest(c, p, nodes) > 40 {
		return false, 0
	}
	named := 0
	for _, node := range nodes {
		if !slices.ContainsFunc(c.Hyps, func(h api.Hyp) bool { return h.Label == node.Label }) {
			named++
		}
	}
	return true, named
}

// deepest tells how many entries a stack has at most along the steps of a proof that made these nodes.
func deepest(c api.Context, p api.Proof, nodes []api.Node) int {
	now, most := 0, 0
	step := func() {
		now += 1 - len(nodes[0].Kids)
		nodes = nodes[1:]
		most = max(most, now)
	}
	if p.Form == api.FormPlain {
		for range p.Labels {
			step()
		}
	}
	for _, code := range p.Codes {
		switch {
		case code.N >= len(c.Mandatory)+len(p.Labels):
			now++
			most = max(most, now)
		case code.N >= 0:
			step()
		}
	}
	return most
}

// firstOfLabel tells whether each mandatory hypothesis is the first of its label.
func firstOfLabel(c api.Context) bool {
	for _, h := range c.Mandatory {
		at := slices.IndexFunc(c.Hyps, func(x api.Hyp) bool { return x.Label == h.Label })
		if at < 0 || !slices.Equal(c.Hyps[at].Expr, h.Expr) {
			return false
		}
	}
	return true
}

// holds holds Text against the second reading and, where P14.2 speaks of the context, against what the words denote. It tells the verdict.
func holds(t *testing.T, b *base.Base, c api.Context, words []api.Token) api.Verdict {
	t.Helper()
	v := Text(b, c, words, behind)
	if want := judge(b, c, words, behind); v != want {
		t.Fatalf("P14.2, P14.4: %.300v in %v: %v, want %v", words, c, v, want)
	}
	if !firstOfLabel(c) {
		return v
	}
	if ok, count := accepted(b, c, words); ok != (v.Code == api.OK) || ok && count != v.Count {
		t.Fatalf("P14.2, P14.4: %.300v in %v: %v; by what it denotes: %v, %d", words, c, v, ok, count)
	}
	return v
}

// holdsBoth is holds in the context as it is, and, if one entry is left, in one whose goal that is.
func holdsBoth(t *testing.T, b *base.Base, c api.Context, words []api.Token, seen map[api.Errno]int) {
	t.Helper()
	v := holds(t, b, c, words)
	seen[v.Code]++
	if v.Code != api.ErrGoal {
		return
	}
	r := &reading{b: b, c: c}
	r.words(words, behind)
	c.Goal = r.entries[0]
	if v := holds(t, b, c, words); v.Code != api.OK {
		t.Fatalf("P14.2: %.300v proves %v: %v", words, c.Goal, v)
	}
	seen[api.OK]++
}

// small is a text with an assertion of each kind, and contexts with and without hypotheses and pairs.
const small = `$c w p $. $v x y $. wx $f w x $. wy $f w y $.
none $a w $.
${ $d x y $. two $a w x y $. $}
${ hx $e p x $. hxy $a p x x $. $}
${ $d x y $. hy $e p y $. in $p w x y $= ? $. $}
${ e1 $e p y $. deep $p p y y y y $= ? $. $}
out $p w x x $= ? $.`

// smallContexts are those of the text's assertions, and some that nobody but a test makes.
func smallContexts(t *testing.T, b *base.Base) []api.Context {
	var all []api.Context
	for _, label := range []string{"two", "hxy", "in", "deep", "out"} {
		all = append(all, contextOf(t, b, label))
	}
	c := contextOf(t, b, "in")
	c.Hyps = append([]api.Hyp{{Label: "two", Expr: c.Goal}, {Label: "?", Expr: c.Goal}, {Label: "(", Expr: c.Goal}}, c.Hyps...)
	c.Before = 1
	all = append(all, c)
	c = contextOf(t, b, "out")
	c.Mandatory = []api.Hyp{{Label: "none", Expr: []int{0, 2, 2}}, {Label: "hx", Expr: []int{0}}, {Label: "none"}}
	return append(all, c, api.Context{Before: 4, Goal: []int{0}})
}

// shortLists gives every list of at most so many items.
func shortLists[T any](most int, items ...T) [][]T {
	all := [][]T{nil}
	for from := 0; len(all[from]) < most; from++ {
		for _, item := range items {
			all = append(all, append(slices.Clone(all[from]), item))
		}
	}
	return all
}

// came holds each of the codes to have come often enough.
func came(t *testing.T, seen map[api.Errno]int, least int, codes ...api.Errno) {
	t.Helper()
	for _, code := range codes {
		if seen[code] < least {
			t.Errorf("the code %d came %d times: it is hardly tried", code, seen[code])
		}
	}
}

// P14.1, P14.2, P14.4: all short lists of words, brackets among them, in several contexts.
func TestShortWords(t *testing.T) {
	b := loaded(t, small)
	contexts := smallContexts(t, b)
	seen := map[api.Errno]int{}
	lists := shortLists(4, "wx", "wy", "none", "two", "hxy", "e1", "?", "(", ")", "A", "out")
	for _, words := range shortLists(4, "wy", "none", "hx", "two", ")", "AZ", "B", "CU", "?", "Z") {
		lists = append(lists, append([]string{"("}, words...))
	}
	for _, words := range lists {
		for _, c := range contexts {
			holdsBoth(t, b, c, placed(words...), seen)
		}
	}
	came(t, seen, 20, api.OK, api.ErrGoal, api.ErrLeft, api.ErrMissing, api.ErrUnknown, api.ErrHidden, api.ErrLater, api.ErrUnder, api.ErrKind, api.ErrApart, api.ErrList, api.ErrNumber, api.ErrCut, api.ErrLetters, api.ErrSave)
}

// P14.1, P14.2, P14.4: all short words of letters behind brackets, parted into words or not, in several contexts.
func TestShortLetters(t *testing.T) {
	b := loaded(t, small)
	contexts := smallContexts(t, b)
	seen := map[api.Errno]int{}
	for _, letters := range append(shortLists(5, "A", "B", "C", "D", "E", "Z"), shortLists(4, "A", "C", "D", "Z", "U", "?", "b")...) {
		for i, list := range []string{"( )", "( two none )", "( hxy wy )"} {
			between := []string{"", " "}[(i+len(letters))%2]
			words := strings.Fields(list + " " + strings.Join(letters, between))
			for _, c := range contexts {
				holdsBoth(t, b, c, placed(words...), seen)
			}
		}
	}
	came(t, seen, 20, api.OK, api.ErrGoal, api.ErrLeft, api.ErrList, api.ErrLater, api.ErrNumber, api.ErrSave, api.ErrCut, api.ErrMissing, api.ErrLetters, api.ErrUnder, api.ErrKind, api.ErrHyp, api.ErrApart)
}

// rule makes numbers by a fixed rule, the same in every run.
type rule uint64

func (r *rule) below(n int) int {
	*r = *r*6364136223846793005 + 1442695040888963407
	return int(uint64(*r)>>33) % n
}

// one picks an item of a list.
func one[T any](r *rule, l []T) T { return l[r.below(len(l))] }

// growing is a text in which strings double, so that long ones come soon, and stacks fill.
const growing = `$c w p a $. $v x y z $. wx $f w x $. wy $f w y $. wz $f w z $.
wa $a w a $.
dbl $a w x x $.
cat $a w x y $.
px $a p x $.
${ hx $e p x $. hy $e p y $. both $a p x y $. $}
${ $d x y $. far $a w x a y $. $}
${ $d x y $. $d y z $. t $p w a a $= ? $. $}`

// plain makes a long plain proof label by label: those that would offend are left out, but for one in so many. At last what is left is laid one behind the other by cat, as far as that goes.
func (r *rule) plain(b *base.Base, c api.Context, labels []string, oneIn int) []string {
	m := &reading{b: b, c: c}
	var words []string
	add := func(label string) bool {
		sound := m.named(label) == api.OK
		if sound || r.below(oneIn) == 0 {
			words = append(words, label)
		}
		return sound
	}
	for range 1 + r.below(120) {
		add(one(r, labels))
	}
	for m.fill(r) && add("dbl") {
	}
	for len(m.entries) > 1 && add("cat") {
	}
	return words
}

// fill tells, once in a while, to make the last entry longer still.
func (m *reading) fill(r *rule) bool { return len(m.entries) > 0 && r.below(12) > 0 }

// packed makes the letters of a long packed proof, in the same way; cat is the first label in the brackets, dbl the second.
func (r *rule) packed(b *base.Base, c api.Context, labels []string, oneIn int) []string {
	m := &reading{b: b, c: c}
	words := append([]string{"("}, labels...)
	for _, label := range labels {
		m.bracket(api.Token{Text: label})
	}
	words = append(words, ")")
	add := func(text string) bool {
		code := m.letters(api.Token{Text: text})
		if code == api.OK || r.below(oneIn) == 0 {
			words = append(words, text)
		}
		m.ahead = 0
		return code == api.OK
	}
	known := len(c.Mandatory) + len(labels)
	for range 1 + r.below(150) {
		n := r.below(known)
		saved := len(m.saved)
		switch r.below(9) {
		case 0, 1:
			add("Z")
			continue
		case 2, 3, 4:
			n = known + saved - r.below(min(saved, 4)+1)
		}
		add(proofLetters(n))
	}
	for m.fill(r) && add(proofLetters(len(c.Mandatory)+1)) {
	}
	for len(m.entries) > 1 && add(proofLetters(len(c.Mandatory))) {
	}
	return words
}

// P14.2, P14.4: long proofs by a rule, plain and packed, many of them deep; as they are, and with one word another.
func TestLongByRule(t *testing.T) {
	b := loaded(t, growing)
	r := rule(14)
	plain, packed := map[api.Errno]int{}, map[api.Errno]int{}
	for try := range 1500 {
		c := contextOf(t, b, "t")
		labels, oneIn := []string{"cat", "dbl", "wx", "wy", "wa", "far", "wz", "px", "both"}, 15
		if try%4 > 0 {
			labels, oneIn = labels[:7], 100 // all strings can be laid one behind the other
		}
		words := r.plain(b, c, labels, oneIn)
		holdsBoth(t, b, c, placed(words...), plain)
		if len(words) > 0 {
			words[r.below(len(words))] = one(&r, append(labels, "?", "hx", "t", "no"))
		}
		holdsBoth(t, b, c, placed(words...), plain)
		words = r.packed(b, c, labels, oneIn)
		holdsBoth(t, b, c, placed(words...), packed)
		words[r.below(len(words))] = one(&r, append(labels, "A", "B", "Z", "?", "U", "b", "UA", "hx", "t", "no", "(", ")"))
		holdsBoth(t, b, c, placed(words...), packed)
	}
	came(t, plain, 10, api.OK, api.ErrGoal, api.ErrLeft, api.ErrMissing, api.ErrUnknown, api.ErrHidden, api.ErrLater, api.ErrUnder, api.ErrKind, api.ErrHyp, api.ErrApart, api.ErrTooLong, api.ErrDeep)
	came(t, packed, 10, api.OK, api.ErrGoal, api.ErrLeft, api.ErrUnknown, api.ErrList, api.ErrNumber, api.ErrSave, api.ErrLetters, api.ErrMissing, api.ErrUnder, api.ErrKind, api.ErrHyp, api.ErrApart, api.ErrTooLong, api.ErrDeep)
}
