package base

import (
	"fmt"
	"regexp"
	"slices"
	"strings"
	"testing"

	"lemma/api"
	"lemma/scan"
	"lemma/stmt"
)

// told is all that a base tells, but for places and the text, with names in the place of numbers (but pairs are in the order of the numbers).
type told struct {
	symbols    []string // variables with a '*' behind
	hyps       []string
	assertions []string
}

func (x told) String() string {
	return strings.Join(slices.Concat(x.symbols, []string{"\n"}, x.hyps, []string{"\n"}, x.assertions), " ")
}

// tellHyp writes a hypothesis with the name of its variable.
func tellHyp(label, variable, words string) string {
	return label + ":" + variable + ":" + words + ";"
}

func (b *Base) tellHyps(l []api.Hyp) string {
	var text string
	for _, h := range l {
		variable := ""
		if h.Floating {
			variable = b.Name(h.Var)
		} else if h.Var != -1 {
			variable = "no -1"
		}
		text += tellHyp(h.Label, variable, b.Print(h.Expr))
	}
	return text
}

func (b *Base) tellPairs(l []api.Pair) string {
	var text string
	for _, p := range l {
		text += b.Name(p.A) + "/" + b.Name(p.B) + ";"
	}
	return text
}

// tell tells all that a base answers.
func (b *Base) tell() told {
	var x told
	for n := range b.Symbols() {
		name := b.Name(n)
		if m, found := b.Number(name); !found || m != n {
			name += " has another number"
		}
		if b.IsVar(n) {
			name += "*"
		}
		x.symbols = append(x.symbols, name)
	}
	for _, s := range b.Stmts() {
		if h, found := b.Hyp(s.Label.Text); found {
			x.hyps = append(x.hyps, b.tellHyps([]api.Hyp{h}))
		}
	}
	for n := range b.Count() {
		a, code := b.At(n)
		if m, found := b.Find(a.Label); code != api.OK || a.Number != n || m != n || !found || a.At.Text != a.Label || a.End.Text != "$." {
			a.Label += " is not as it should be"
		}
		f, s := a.Frame, a.Scope
		x.assertions = append(x.assertions, tellAssertion(a.Label, a.Theorem, b.tellHyps(f.Hyps), b.tellPairs(f.Pairs), b.Print(f.Goal), b.tellHyps(s.Hyps), b.tellPairs(s.Pairs), texts(a.Proof)))
	}
	return x
}

func tellAssertion(label string, theorem bool, parts ...string) string {
	return fmt.Sprint("\n", label, " ", theorem, " ", strings.Join(parts, " | "))
}

func texts(l []api.Token) string {
	var words []string
	for _, w := range l {
		words = append(words, w.Text)
	}
	return strings.Join(words, " ")
}

// thing is something that a statement declared: a symbol, a hypothesis, or distinct variables.
type thing struct {
	kind  int
	name  string
	words []string
	depth int
	gone  bool
}

// model is a second reading of the chapter and of R3 to R6, by names alone: a list of all things that were ever declared, looked through afresh for every word.
type model struct {
	things []thing
	labels []string
	depth  int
	told   told
}

var (
	symbolName = regexp.MustCompile(`^[!-#%-~]{1,32}$`)
	labelName  = regexp.MustCompile(`^[a-zA-Z0-9._-]{1,32}$`)
)

// modelLoad answers what Load should.
func modelLoad(text string) (told, *api.Fault) {
	statements, broken := stmt.Read(text)
	m := &model{}
	for _, s := range statements {
		if f := m.statement(s); f != nil {
			return told{}, f
		}
	}
	if broken == nil && m.depth > 0 {
		lines := strings.Split(text, "\n")
		broken = &api.Fault{At: api.Pos{Off: len(text), Line: len(lines), Col: len(lines[len(lines)-1]) + 1}, Code: api.ErrScope}
	}
	if broken != nil {
		return told{}, broken
	}
	return m.told, nil
}

// wrong is an error and whether it applies.
type wrong struct {
	applies bool
	code    api.Errno
}

func (m *model) statement(s api.Stmt) *api.Fault {
	words := append([]api.Token{s.Label, s.Key}, s.Words...)
	for i, w := range words {
		if i == 0 && w.Text == "" {
			continue
		}
		for _, x := range m.wrongs(s, i-2, w.Text) {
			if x.applies {
				return &api.Fault{At: w.At, Text: w.Text, Code: x.code}
			}
		}
		if i > 1 && (s.Kind == api.StConst || s.Kind == api.StVar) {
			m.symbol(s.Kind, w.Text)
		}
	}
	if s.End.Text != "" {
		m.ended(s)
	}
	return nil
}

// wrongs gives the errors at a word, in the table's order: i is -2 for the label, -1 for the keyword, else the word's number.
func (m *model) wrongs(s api.Stmt, i int, w string) []wrong {
	active, variable := m.find(w, api.StConst, api.StVar, false) >= 0, m.find(w, api.StVar, api.StVar, true) >= 0
	typed := slices.ContainsFunc(m.things, func(x thing) bool { return x.kind == api.StFloat && !x.gone && x.words[1] == w })
	ever := m.find(w, api.StConst, api.StVar, true) >= 0
	full := len(m.told.symbols) == 512
	switch {
	case i == -2:
		return []wrong{{!labelName.MatchString(w), api.ErrName}, {slices.Contains(m.labels, w), api.ErrTwice}, {len(m.labels) == 1024, api.ErrMany}}
	case s.Kind == api.StOpen:
		return []wrong{{m.depth == 16, api.ErrScope}}
	case s.Kind == api.StClose:
		return []wrong{{m.depth == 0, api.ErrScope}}
	case i == -1:
		return []wrong{{s.Kind == api.StConst && m.depth > 0, api.ErrConst}}
	case s.Kind == api.StConst:
		return []wrong{{!symbolName.MatchString(w), api.ErrName}, {ever, api.ErrTwice}, {full, api.ErrMany}}
	case s.Kind == api.StVar:
		return []wrong{{!symbolName.MatchString(w), api.ErrName}, {active, api.ErrTwice}, {!ever && full, api.ErrMany}}
	case s.Kind == api.StFloat && i == 0:
		return []wrong{{!active, api.ErrSymbol}, {variable, api.ErrType}}
	case s.Kind == api.StFloat:
		return []wrong{{!active, api.ErrSymbol}, {!variable, api.ErrVar}, {typed, api.ErrFloat}}
	case s.Kind == api.StDist:
		ahead := strings.Fields(texts(s.Words[:i]))
		many := len(m.pairs(nil, append(slices.Clone(ahead), w))) > 256
		return []wrong{{!active, api.ErrSymbol}, {!variable, api.ErrVar}, {slices.Contains(ahead, w), api.ErrSame}, {many, api.ErrMany}}
	}
	return []wrong{{i == 200, api.ErrTooLong}, {!active, api.ErrSymbol}, {i == 0 && variable, api.ErrType}, {variable && !typed, api.ErrFloat}}
}

// find tells where a thing of that name and of one of two kinds stands, active or, if ever is true, at all; -1: nowhere.
func (m *model) find(name string, kind, other int, ever bool) int {
	return slices.IndexFunc(m.things, func(x thing) bool {
		return x.name == name && (x.kind == kind || x.kind == other) && (ever || !x.gone)
	})
}

func (m *model) symbol(kind int, name string) {
	if m.find(name, api.StConst, api.StVar, true) < 0 {
		mark := map[int]string{api.StVar: "*"}[kind]
		m.told.symbols = append(m.told.symbols, name+mark)
	}
	m.things = append(m.things, thing{kind: kind, name: name, depth: m.depth})
}

func (m *model) ended(s api.Stmt) {
	words := strings.Fields(texts(s.Words))
	if s.Label.Text != "" {
		m.labels = append(m.labels, s.Label.Text)
	}
	switch s.Kind {
	case api.StOpen:
		m.depth++
	case api.StClose:
		m.depth--
		for i := range m.things {
			m.things[i].gone = m.things[i].gone || m.things[i].depth > m.depth
		}
	case api.StFloat, api.StEss, api.StDist:
		x := thing{kind: s.Kind, name: s.Label.Text, words: words, depth: m.depth}
		m.things = append(m.things, x)
		if s.Kind != api.StDist {
			m.told.hyps = append(m.told.hyps, x.tell())
		}
	case api.StAxiom, api.StTheorem:
		m.assertion(s, words)
	}
}

func (x thing) tell() string {
	if x.kind == api.StFloat {
		return tellHyp(x.name, x.words[1], strings.Join(x.words, " "))
	}
	return tellHyp(x.name, "", strings.Join(x.words, " "))
}

// assertion tells an assertion by R6.
func (m *model) assertion(s api.Stmt, goal []string) {
	mandatory := slices.Clone(goal)
	for _, x := range m.things {
		if x.kind == api.StEss && !x.gone {
			mandatory = append(mandatory, x.words...)
		}
	}
	var needed, active string
	for _, x := range m.things {
		if x.gone || x.kind != api.StEss && x.kind != api.StFloat {
			continue
		}
		active += x.tell()
		if x.kind == api.StEss || slices.Contains(mandatory, x.words[1]) {
			needed += x.tell()
		}
	}
	apart, all := m.pairs(mandatory, nil), m.pairs(nil, nil)
	m.told.assertions = append(m.told.assertions, tellAssertion(s.Label.Text, s.Kind == api.StTheorem, needed, strings.Join(apart, ""), strings.Join(goal, " "), active, strings.Join(all, ""), texts(s.Proof)))
}

// pairs gives the active pairs and those of some more variables; if only is not nil, those with both variables in it. In the order of numbers, by going through all pairs of variables that there may be.
func (m *model) pairs(only, more []string) []string {
	var lists [][]string
	for _, x := range m.things {
		if x.kind == api.StDist && !x.gone {
			lists = append(lists, x.words)
		}
	}
	lists = append(lists, more)
	seen := map[string]bool{}
	for _, l := range lists {
		for i, v := range l {
			for _, u := range l[:i] {
				seen[u+" "+v], seen[v+" "+u] = u != v, u != v
			}
		}
	}
	var told []string
	for i, v := range m.told.symbols {
		for _, u := range m.told.symbols[:i] {
			u, v := strings.TrimSuffix(u, "*"), strings.TrimSuffix(v, "*")
			if seen[u+" "+v] && (only == nil || slices.Contains(only, u) && slices.Contains(only, v)) {
				told = append(told, u+"/"+v+";")
			}
		}
	}
	slices.SortStableFunc(told, func(a, b string) int {
		number := func(s string) int {
			name, _, _ := strings.Cut(s, "/")
			return slices.Index(m.told.symbols, name+"*")
		}
		return number(a) - number(b)
	})
	return told
}

// agree holds Load against the model, and tells whether the text loads.
func agree(t *testing.T, text string) bool {
	t.Helper()
	b, f := Load(text)
	x, g := modelLoad(text)
	if (b == nil) != (g != nil) || (f == nil) != (g == nil) || f != nil && *f != *g {
		t.Fatalf("P8.2: of %q: fault %+v, the model's %+v", clip(text), f, g)
	}
	if b != nil && b.tell().String() != x.String() {
		t.Fatalf("P8.3: of %q: %.400s, the model's %.400s", clip(text), b.tell(), x)
	}
	return b != nil
}

// eachRun calls do with every run of at most so many of the pieces, a blank behind each.
func eachRun(pieces []string, most int, text string, do func(string)) {
	do(text)
	if most > 0 {
		for _, p := range pieces {
			eachRun(pieces, most-1, text+p+" ", do)
		}
	}
}

// P8.2, P8.3: every short run of statements.
func TestRunsOfStatements(t *testing.T) {
	pieces := []string{"${", "$}", "$c u $.", "$c x $.", "$v x $.", "$v y x $.", "f $f t x $.", "g $f u y $.", "e $e t x $.", "a $a t y x $.", "b $p t $= f $.", "$d x y $."}
	loads := 0
	count := func(text string) {
		open := max(0, strings.Count(text, "${")-strings.Count(text, "$}"))
		if agree(t, text) || open > 0 && agree(t, text+strings.Repeat("$} ", open)) {
			loads++
		}
	}
	eachRun(pieces, 3, "", count)
	eachRun(pieces, 4, "$c t $. $v x $. f $f t x $. ", count)
	eachRun(pieces, 3, "$c t u $. $v y x $. g $f u y $. ${ f $f t x $. ", count)
	if loads < 300 {
		t.Errorf("%d of the runs load", loads)
	}
}

// P8.2: every short run of words.
func TestRunsOfWords(t *testing.T) {
	pieces := strings.Fields("${ $} $c $v $d $a $f $. t x y")
	eachRun(pieces, 4, "$c t $. $v x $. f $f t x $. ", func(text string) { agree(t, text) })
	eachRun(pieces, 4, "$c t $. ${ $v x y $. ", func(text string) { agree(t, text) })
}

// P8.2, P8.3: the text M with a word changed, taken out, or put in, at every place.
func TestNearM(t *testing.T) {
	words := strings.Fields(textM)
	others := strings.Fields("${ $} $c $v $d $f $e $a $p $. $= $( $) p q wff ( wp mn zz x#y $x")
	for i := range words {
		agree(t, strings.Join(slices.Concat(words[:i], words[i+1:]), " "))
		agree(t, strings.Join(words[:i], "\n"))
		for _, w := range others {
			agree(t, strings.Join(slices.Concat(words[:i], []string{w}, words[i+1:]), " "))
			agree(t, strings.Join(slices.Concat(words[:i], []string{w}, words[i:]), " "))
		}
	}
}

// rule gives numbers by a fixed rule.
type rule uint64

func (r *rule) below(n int) int {
	*r = *r*6364136223846793005 + 1442695040888963407
	return int(uint64(*r) >> 33 % uint64(n))
}

func (r *rule) of(words string) string {
	l := strings.Fields(words)
	return l[r.below(len(l))]
}

// statement gives a statement that may load or not.
func (r *rule) statement(n int) string {
	label := fmt.Sprint("l", r.below(8*n+8))
	symbols := "t u c d v w x y z"
	var words string
	for range r.below(5) {
		words += r.of(symbols) + " "
	}
	switch r.below(12) {
	case 0:
		return "${ "
	case 1:
		return "$} "
	case 3:
		return "$c " + r.of("t u c d d e x") + " $. "
	case 4:
		return "$v " + r.of("v w x y z") + " " + r.of("v w x y z t") + " $. "
	case 5, 6:
		return label + " $f " + r.of("t u v") + " " + r.of("v w x y z t") + " $. "
	case 8:
		return label + " $e " + r.of("t u") + " " + words + "$. "
	case 9:
		return "$d " + r.of("v w x y z") + " " + r.of("v w x y z") + " " + words + "$. "
	case 2, 7, 10:
		return label + " $a " + r.of("t u") + " " + words + "$. "
	}
	return label + " $p " + r.of("t u") + " " + words + "$= " + words + "$. "
}

// P8.2, P8.3: long texts by a fixed rule: what would refuse the text so far is refused as the model says, and left out.
func TestLongTexts(t *testing.T) {
	r := rule(8)
	most := 0
	for range 20 {
		text, depth := "$c t u $. $v v w x $. f $f t v $. g $f u w $. ", 0
		for n := range 100 {
			s := r.statement(n)
			step := strings.Count(s, "${") - strings.Count(s, "$}")
			if depth+step < 0 || depth+step > 4 {
				continue
			}
			if agree(t, text+s+strings.Repeat("$} ", depth+step)) {
				text, depth = text+s, depth+step
			}
		}
		b := loaded(t, text+strings.Repeat("$} ", depth))
		most = max(most, b.Count())
	}
	if most < 10 {
		t.Errorf("the longest text has %d assertions", most)
	}
}

// cut gives a text up to the word of its fault: of a label, up to the keyword behind it.
func cut(text string, f *api.Fault) string {
	words, _ := scan.Scan(text)
	end := f.At.Off + len(f.Text)
	i := slices.IndexFunc(words, func(w api.Token) bool { return w.At == f.At })
	if i >= 0 && i+1 < len(words) && slices.Contains([]string{"$f", "$e", "$a", "$p"}, words[i+1].Text) {
		end = words[i+1].At.Off + 2
	}
	return text[:end]
}

// P8.2: faults do not hang on what stands behind them: texts cut off behind the word that offends, and gone on with otherwise.
func TestFirstFault(t *testing.T) {
	words := strings.Fields(textM)
	tails := []string{"", " ", "\n$.", " x $c \x00", " $( \t$( "}
	for i := range words {
		for _, w := range strings.Fields("$} $c $d $f $a $. $) p wff wp zz x#y") {
			text := strings.Join(slices.Concat(words[:i], []string{w}, words[i:]), " ")
			_, f := Load(text)
			if f == nil || f.Text == "" || f.Code == api.ErrOpen {
				continue
			}
			for _, tail := range tails {
				if _, g := Load(cut(text, f) + tail); g == nil || *g != *f {
					t.Fatalf("P8.2: %q: %+v; gone on with %q: %+v", clip(cut(text, f)), f, tail, g)
				}
			}
		}
	}
}
