package stripe

import (
	"errors"

	"sherd/api"
)

// Where a refusal came from.
const (
	atFace   = "the call"
	atCode   = "the code"
	atMend   = "the mending"
	atStripe = "the stripe"
)

// refusal wraps what was refused with where.
type refusal struct {
	where string
	cause error
}

func (r *refusal) Error() string { return "stripe: " + r.where + ": " + r.cause.Error() }

func (r *refusal) Unwrap() error { return r.cause }

// refuse is nil for OK: an error of Go that says that there is none would be taken for one.
func refuse(where string, e api.Errno) error {
	if e == api.OK {
		return nil
	}
	return &refusal{where: where, cause: e}
}

// number takes the number out of what was refused; it stays OK where nothing was.
func number(err error) api.Errno {
	var e api.Errno
	errors.As(err, &e)
	return e
}
