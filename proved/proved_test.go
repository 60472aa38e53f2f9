package proved

import (
	"reflect"
	"testing"

	"lemma/api"
	"lemma/base"
)

const text = `$c w $. g $a w $. ${ e1 $e w $. e2 $e w $. d $a w $. $} ${ h $e w $.
plain $p w $= g h d $. packed $p w $= ( g d ) BZDCZEC $. open $p w $= g ? $. left $p w $= g g $. broken $p w $= ( g $. under $p w $= d h $. $}`

func loaded(t *testing.T, text string) *base.Base {
	t.Helper()
	b, fault := base.Load(text)
	if fault != nil {
		t.Fatalf("the text is refused: %v", *fault)
	}
	return b
}

// R8, R12: the nodes of proved theorems, a saved step's once; of others the error, and nothing beside it.
func TestDerivation(t *testing.T) {
	b := loaded(t, text)
	leaf := func(label string) api.Node { return api.Node{Label: label, Kids: []int{}} }
	d := func(kids ...int) api.Node { return api.Node{Label: "d", Kids: kids} }
	wants := map[string][]api.Node{
		"plain":  {leaf("g"), leaf("h"), d(0, 1)},
		"packed": {leaf("g"), d(0, 0), d(1, 1)},
	}
	for label, want := range wants {
		n, _ := b.Find(label)
		if l, code := Derivation(b, n); !reflect.DeepEqual(l, want) || code != api.OK {
			t.Errorf("R8: %s: %v, %d, want %v", label, l, code, want)
		}
	}
	errors := map[int]api.Errno{-1 << 63: api.ErrNone, -1: api.ErrNone, 0: api.ErrNone, 1: api.ErrNone, b.Count(): api.ErrNone, 1<<63 - 1: api.ErrNone}
	for _, label := range []string{"open", "left", "broken", "under"} {
		n, _ := b.Find(label)
		errors[n] = api.ErrUnproved
	}
	for n, want := range errors {
		if l, code := Derivation(b, n); len(l) != 0 || code != want {
			t.Errorf("R12: Derivation(%d): %v, %d, want %d", n, l, code, want)
		}
	}
}

// R8: what a proved theorem cites need not be proved.
func TestCites(t *testing.T) {
	b := loaded(t, "$c w $. open $p w $= ? $. by $p w $= open $.")
	if l, code := Derivation(b, 1); code != api.OK || len(l) != 1 || l[0].Label != "open" {
		t.Errorf("R8: %v, %d", l, code)
	}
}

// R11: answers are new memory: written over, they change no later one.
func TestNew(t *testing.T) {
	b := loaded(t, text)
	n, _ := b.Find("packed")
	want, _ := Derivation(b, n)
	got, _ := Derivation(b, n)
	for _, node := range got {
		clear(node.Kids[:cap(node.Kids)])
	}
	clear(got[:cap(got)])
	again, _ := Derivation(b, n)
	if !reflect.DeepEqual(want, again) || want[2].Label != "d" || want[2].Kids[0] != 1 {
		t.Errorf("R11: %v, then %v", want, again)
	}
}
