package base

import (
	"reflect"
	"slices"
	"strings"
	"testing"

	"lemma/api"
	"lemma/stmt"
)

// plain gives statements without their places.
func plain(l []api.Stmt) []api.Stmt {
	bare := func(w *api.Token) { w.At = api.Pos{} }
	for i := range l {
		s := &l[i]
		bare(&s.Label)
		bare(&s.Key)
		bare(&s.End)
		for j := range s.Words {
			bare(&s.Words[j])
		}
		for j := range s.Proof {
			bare(&s.Proof[j])
		}
	}
	return l
}

// sameBase holds bases against each other, but for places and texts.
func sameBase(t *testing.T, promise string, a, b *Base) {
	t.Helper()
	if a.tell().String() != b.tell().String() || !reflect.DeepEqual(plain(a.Stmts()), plain(b.Stmts())) {
		t.Errorf("%s: %.300s and %.300s", promise, a.tell(), b.tell())
	}
	for n := range a.Count() {
		x, code := a.Context(n)
		y, other := b.Context(n)
		if code != other || !reflect.DeepEqual(x, y) {
			t.Errorf("%s: Context(%d) is %v and %v", promise, n, x, y)
		}
	}
}

// ways are blanks and comments that may stand between words.
func ways() []string {
	return []string{" ", "\n", "\t", "\r\n", "\f", "   ", " $( $) ", "\n$( $a $. wff p (* *) ${ $)\n", "\t\t\n \f", " $( x $) $( y $) "}
}

// P8.6: other blanks and comments between the same words: the same base, and the same fault but for its place.
func TestBlanksAndComments(t *testing.T) {
	for _, text := range []string{"$c x $.", textM, rich} {
		words := strings.Fields(text)
		want := loaded(t, text)
		for _, between := range ways() {
			b := loaded(t, between+strings.Join(words, between)+between)
			sameBase(t, "P8.6", want, b)
		}
		var mixed strings.Builder
		for i, w := range words {
			mixed.WriteString(w + ways()[i%len(ways())])
		}
		sameBase(t, "P8.6", want, loaded(t, mixed.String()))
	}
	for _, more := range []string{"$c p $.", "wp $a wff p $.", "x $a wff zz", "$}", "${ $c z $.", "$d p q p $.", "${"} {
		_, want := Load(rich + " " + more)
		for _, between := range ways() {
			_, f := Load(strings.Join(strings.Fields(rich+" "+more), between))
			if f == nil || f.Code != want.Code || f.Text != want.Text {
				t.Errorf("P8.6: %q: %+v and %+v", more, want, f)
			}
		}
	}
}

// P8.7, P0.6: what is printed loads to the same base, and is printed again as it was.
func TestPrinted(t *testing.T) {
	for _, text := range []string{"", "$( x $)", "$c x $.", "${ ${ $} $}", textM, rich, "$c t u $. ${ $v x $. fx $f t x $. a $a t x $. $} $v x $. gx $f u x $. b $p u x $= ( ) $."} {
		b := loaded(t, text)
		printed, code := stmt.Print(b.Stmts())
		if code != api.OK {
			t.Fatalf("P8.7: Print: %d", code)
		}
		again := loaded(t, printed)
		sameBase(t, "P8.7", b, again)
		if twice, _ := stmt.Print(again.Stmts()); twice != printed || again.Text() != printed {
			t.Errorf("P8.7: %q is printed as %q", clip(printed), clip(twice))
		}
	}
}

// P8.5: with and without a scope that is closed, what stands behind it has the same frame and scope, by names.
func TestClosedScope(t *testing.T) {
	head := "$c t u $. $v x y z $. fx $f t x $. fy $f u y $. $d x y $. e $e t x $. h $a t y $. "
	tail := "$d y z $. b $a t y $. ${ fz $f t z $. f $e u z $. c $p t x $= e $. $} d $a u $."
	want := loaded(t, head+tail).tell()
	for _, inner := range []string{
		"", "$d x z $.", "$v w $. fw $f t w $. i $a t w $.", "gz $f u z $. j $e u z y $. i $p t z $= j $.",
		"${ $d x y z $. ${ k $e t x y $. i $a u $. $} $} $d z y $.", "$v w $. $d w x $. ${ gz $f t z $. $} i $a t $. ${ hz $f u z $. j $a u z $. $}",
	} {
		x := loaded(t, head+"${ "+inner+" $} "+tail).tell()
		behind := x.assertions[len(x.assertions)-3:]
		if !slices.Equal(behind, want.assertions[1:]) || x.assertions[0] != want.assertions[0] {
			t.Errorf("P8.5: behind %q: %s, not %s", inner, behind, want.assertions[1:])
		}
	}
	for _, text := range []string{"${ $v w $. $} $c @w $.", "${ gz $f t z $. $} @gz $a t $.", "${ i $a t $. $} @i $e t $."} {
		offends(t, head, text, api.ErrTwice)
	}
	b := loaded(t, head+"${ i $a t x $. $} j $p t x $= fx e i $.")
	if n, found := b.Find("i"); n != 1 || !found || at(t, b, 2).Proof[2].Text != "i" {
		t.Errorf("P8.5: i is %d, %v", n, found)
	}
}

// P8.3: a frame's hypotheses and pairs are among its scope's, in their order.
func TestFramesAreOfScopes(t *testing.T) {
	b := loaded(t, rich)
	for n := range b.Count() {
		a := at(t, b, n)
		rest := a.Scope.Hyps
		for _, h := range a.Frame.Hyps {
			i := slices.IndexFunc(rest, func(g api.Hyp) bool { return reflect.DeepEqual(g, h) })
			if i < 0 {
				t.Fatalf("P8.3: %s is not in the scope of %s behind what was met", h.Label, a.Label)
			}
			rest = rest[i+1:]
		}
		for _, p := range a.Frame.Pairs {
			if !slices.Contains(a.Scope.Pairs, p) || p.A >= p.B {
				t.Errorf("P8.3: the pair %v of %s", p, a.Label)
			}
		}
	}
}
