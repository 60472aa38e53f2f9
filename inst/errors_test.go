package inst

import (
	"errors"
	"testing"

	"lemma/api"
)

// The way of this layer: a refusal comes out of whatever it was wrapped in, however often; what wraps it tells where it was.
func TestRefusalTakenOut(t *testing.T) {
	var err error = refusal{Code: api.ErrSyntax, Var: "p"}
	for _, want := range []string{"error 190", "a: error 190", "a: a: error 190"} {
		var no refusal
		if err.Error() != want || !errors.As(err, &no) || api.Refusal(no) != syntax("p") {
			t.Errorf("%q, want %q; taken out: %+v", err.Error(), want, no)
		}
		err = refused{by: "a", err: err}
	}
	for _, o := range []api.Order{order("zz", "id"), order("id", "zz"), order("id", "id"), order("dd", "id", given("p", "p", "wp"), given("q", "p", "wp"))} {
		_, err := build(loaded(t, examples), o)
		var around refused
		if !errors.As(err, &around) || around.by == "" {
			t.Errorf("%+v is refused by %v, unwrapped", o, err)
		}
	}
}
