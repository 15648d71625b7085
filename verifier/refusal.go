package verifier

import (
	"errors"

	"almoner/api"
)

// refusal is what is wrong: the number that a face answers, wrapped round what has shown it.
type refusal struct {
	errno api.Errno
	shown error // a *api.Fault, a *clash; nil, where the number says it all
}

// Error tells it in words.
func (r *refusal) Error() string {
	if r.shown == nil {
		return r.errno.Error()
	}
	return r.errno.Error() + ": " + r.shown.Error()
}

// Unwrap tells what has shown it.
func (r *refusal) Unwrap() error { return r.shown }

// errnoOf tells what a face answers: the number of what is wrong, or OK, if that is nil.
func errnoOf(err error) api.Errno {
	var r *refusal
	if errors.As(err, &r) {
		return r.errno
	}
	return api.OK
}
