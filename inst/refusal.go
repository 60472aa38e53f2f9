package inst

import "lemma/api"

// refusal is a refusal as an error: whatever it is wrapped in on its way out, the face takes it out again.
type refusal api.Refusal

func (r refusal) Error() string { return r.Code.Error() }

// refused is an error with the part of an order that refuses.
type refused struct {
	by  string
	err error
}

func (r refused) Error() string { return r.by + ": " + r.err.Error() }

func (r refused) Unwrap() error { return r.err }
