// Package fault: what is wrong with a shard, or with several together, and where, as errors.
package fault

import (
	"errors"
	"strconv"

	"cairn/api"
)

// TooEarly is what errors.Is finds in the faults of a shard that ends too early. These alone may be mended by bytes that come later.
var TooEarly = errors.New("it ends too early")

// Fault is an error and the place where it shows: in a shard so many bytes, among shards so many of them.
type Fault struct {
	Errno api.Errno
	Place int
}

// At gives the fault of this error at this place.
func At(errno api.Errno, place int) error {
	return &Fault{Errno: errno, Place: place}
}

func (f *Fault) Error() string {
	return "error " + strconv.Itoa(int(f.Errno)) + " at place " + strconv.Itoa(f.Place)
}

// Is tells errors.Is which faults are TooEarly: each has a place of its own, so none is the same as another.
func (f *Fault) Is(target error) bool {
	return target == TooEarly && f.Errno == api.ErrShort
}

// within is an error together with what was being read.
type within struct {
	what  string
	cause error
}

// Within wraps an error by what was being read. It stays nil if it is.
func Within(what string, cause error) error {
	if cause == nil {
		return nil
	}
	return &within{what: what, cause: cause}
}

func (w *within) Error() string { return w.what + ": " + w.cause.Error() }

func (w *within) Unwrap() error { return w.cause }
