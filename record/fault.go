package record

import (
	"errors"
	"strconv"

	"letterbox/api"
)

// fault is an error of a record, and how many of its bytes were read by then.
type fault struct {
	at  int
	err error
}

// Error tells both.
func (f fault) Error() string { return "record, byte " + strconv.Itoa(f.at) + ": " + f.err.Error() }

// Unwrap is the error alone.
func (f fault) Unwrap() error { return f.err }

// numberOf is the number of a reader's error.
func numberOf(err error) api.Errno {
	var number api.Errno
	if errors.As(err, &number) {
		return number
	}
	return api.OK
}
