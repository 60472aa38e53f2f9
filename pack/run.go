package pack

import (
	"lemma/api"
	"lemma/stack"
)

// run is where a packed proof has come to.
type run struct {
	machine *stack.Machine
	means   []meaning // by number: a save makes the next number mean something
	fresh   bool      // the code ahead was a number: what it laid on the stack may be saved
	count   int       // assertions applied
}

// do does what the code number i of a proof asks for.
func (r *run) do(i, n int) api.Errno {
	switch {
	case i >= api.MaxProof:
		return api.ErrSteps
	case n <= api.CodeBad:
		return api.ErrLetters
	case n == api.CodeOpen:
		return api.ErrMissing
	case n == api.CodeSave:
		return r.save()
	}
	return r.call(n)
}

// save makes the next number mean the last entry.
func (r *run) save() api.Errno {
	if !r.fresh {
		return api.ErrSave
	}
	last, _ := r.machine.Top()
	r.means = append(r.means, entry(last))
	r.fresh = false
	return api.OK
}

// call does the step that a number means.
func (r *run) call(n int) api.Errno {
	if n >= len(r.means) {
		return api.ErrNumber
	}
	what := r.means[n]
	if code := what.step(r.machine); code != api.OK {
		return code
	}
	r.fresh = true
	switch what.(type) {
	case assertion: // all else applies nothing, whatever a saved entry stands for
		r.count++
	}
	return api.OK
}

// end is the verdict behind the last code.
func (r *run) end(p api.Proof) api.Verdict {
	if p.Cut {
		return r.verdict(api.ErrCut, p.End)
	}
	if code := r.machine.End(); code != api.OK {
		return r.verdict(code, p.End)
	}
	return r.verdict(api.OK, api.Token{})
}

// verdict is what is told of a run that ends here.
func (r *run) verdict(code api.Errno, at api.Token) api.Verdict {
	return api.Verdict{Code: code, At: at, Count: r.count, Peak: r.machine.Peak()}
}
