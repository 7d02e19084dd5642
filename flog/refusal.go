package flog

import (
	"errors"

	"sherd/api"
)

// Where something is wrong with what was given.
const (
	atDisk   = "the disk"
	atHead   = "the head"
	atUpdate = "update "
)

// In which call the disk failed.
const (
	inRead   = "read"
	inWipe   = "wipe"
	inAppend = "append"
	inSync   = "sync"
	inSwitch = "switch"
)

// refusal wraps what is wrong with where.
type refusal struct {
	where string
	cause error
}

func (r *refusal) Error() string { return "flog: " + r.where + ": " + r.cause.Error() }

func (r *refusal) Unwrap() error { return r.cause }

func refuse(where string, e api.Errno) error { return &refusal{where: where, cause: e} }

// failure wraps what the disk answered with the call: a type of its own, for behind it a log is at its end, and behind a refusal it isn't.
type failure struct {
	call  string
	cause error
}

func (f *failure) Error() string { return "flog: the disk's " + f.call + ": " + f.cause.Error() }

func (f *failure) Unwrap() error { return f.cause }

// fail is nil for OK: an error of Go that says that there is none would be taken for one.
func fail(call string, e api.Errno) error {
	if e == api.OK {
		return nil
	}
	return &failure{call: call, cause: e}
}

// number takes the number out of what went wrong; it stays OK where nothing did.
func number(err error) api.Errno {
	var e api.Errno
	errors.As(err, &e)
	return e
}
