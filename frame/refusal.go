package frame

import (
	"errors"

	"sherd/api"
)

// Where something is wrong.
const (
	atKind    = "the kind"
	atNumbers = "the numbers"
	atKey     = "the key"
	atTag     = "the tag"
	atTop     = "the top"
	atData    = "the data"
	atUnused  = "what the kind doesn't use"
	atLength  = "the frame's length"
	atSum     = "the frame's sum"
	atByte    = "from byte "
)

// refusal wraps what is wrong with where.
type refusal struct {
	where string
	cause error
}

func (r *refusal) Error() string { return "frame: " + r.where + ": " + r.cause.Error() }

func (r *refusal) Unwrap() error { return r.cause }

func refuse(where string, e api.Errno) error { return &refusal{where: where, cause: e} }

// noFrame wraps why bytes with a sum and a kind are the frame of no message.
type noFrame struct {
	cause error
}

func (n *noFrame) Error() string { return "frame: of no message: " + n.cause.Error() }

func (n *noFrame) Unwrap() error { return n.cause }

// number is what the face answers; OK where nothing is wrong. One who decodes is told just that the form is wrong, whatever the cause inside.
func number(err error) api.Errno {
	var form *noFrame
	if errors.As(err, &form) {
		return api.ErrForm
	}
	var e api.Errno
	errors.As(err, &e)
	return e
}
