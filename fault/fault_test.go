package fault

import (
	"errors"
	"testing"

	"cairn/api"
)

func TestFaultIsFoundAgain(t *testing.T) {
	err := At(api.ErrSum, 24)
	for range 3 {
		var found *Fault
		if !errors.As(err, &found) || found.Errno != api.ErrSum || found.Place != 24 {
			t.Errorf("in %q there is %v", err, found)
		}
		err = Within("more", err)
	}
}

func TestTooEarly(t *testing.T) {
	for errno := api.OK; errno <= api.ErrColumns; errno++ {
		err := At(errno, 7)
		for range 3 {
			if errors.Is(err, TooEarly) != (errno == api.ErrShort) {
				t.Errorf("%q is TooEarly: %v", err, errors.Is(err, TooEarly))
			}
			err = Within("more", err)
		}
	}
	if errors.Is(At(api.ErrShort, 7), errors.New("another")) || errors.Is(nil, TooEarly) {
		t.Errorf("a fault is another error, or none is TooEarly")
	}
}

func TestText(t *testing.T) {
	err := Within("the manifest", Within("blob 1", At(api.ErrManifest, 45)))
	if got, want := err.Error(), "the manifest: blob 1: error 7 at place 45"; got != want {
		t.Errorf("%q, want %q", got, want)
	}
}

func TestNothingWrongStaysSo(t *testing.T) {
	if err := Within("the head", nil); err != nil {
		t.Errorf("%v, want nil", err)
	}
}
