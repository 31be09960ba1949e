package layout

import (
	"errors"
	"reflect"
	"testing"

	"cairn/api"
	"cairn/fault"
)

func TestReadNumber(t *testing.T) {
	if got := readNumber([]byte{8, 7, 6, 5, 4, 3, 2, 1}); got != 0x0102030405060708 {
		t.Errorf("readNumber = %x", got)
	}
	if got := readNumber([]byte{0, 0, 1, 0}); got != 65536 {
		t.Errorf("readNumber = %d", got)
	}
}

func someShard() api.Shard {
	return api.Shard{K: 2, N: 3, Index: 1, Chunk: 1, Names: []string{"a", "b"}, Sizes: []int{1, 2}, Column: []byte{'z', 0}}
}

func someBytes(s api.Shard) []byte { return Write(s, Manifest(s.Names, s.Sizes)) }

// A fault is wrapped by what was being read: the head, the manifest and its blob, a frame, the tail.
func TestWhatWasBeingRead(t *testing.T) {
	changed := func(change func(*api.Shard)) []byte {
		s := someShard()
		change(&s)
		return someBytes(s)
	}
	b := someBytes(someShard())
	for _, c := range []struct {
		text []byte
		want string
	}{
		{b[:31], "the head: error 4 at place 31"},
		{[]byte("x"), "the head: error 5 at place 0"},
		{b[:57], "the manifest: error 4 at place 57"},
		{changed(func(s *api.Shard) { s.Names[1] = "a" }), "the manifest: blob 1: error 7 at place 45"},
		{changed(func(s *api.Shard) { s.Column = nil }), "the manifest: error 7 at place 18"},
		{changed(func(s *api.Shard) { s.Column[1] = 1 }), "a frame: error 8 at place 67"},
		{b[:len(b)-1], "the tail: error 4 at place 79"},
		{append(b, 0), "behind the tail: error 9 at place 80"},
	} {
		var r Reading
		if err := r.Take(c.text); err == nil || err.Error() != c.want {
			t.Errorf("%v, want %s", err, c.want)
		}
	}
}

// Of what was read nothing is kept behind a fault but the fault, and behind a shard nothing but the shard.
func TestNoMoreIsKeptThanNeeded(t *testing.T) {
	b := someBytes(someShard())
	var r Reading
	if err := r.Take(b); err != nil || len(r.text) != 0 {
		t.Errorf("%d bytes are kept, %v", len(r.text), err)
	}
	err := r.Take([]byte("more"))
	if want := (Reading{fault: err}); err == nil || !reflect.DeepEqual(r, want) {
		t.Errorf("%+v is kept, want %+v", r, want)
	}
	if again := r.Take(b); again != err {
		t.Errorf("%v, want %v again", again, err)
	}
	if s, again := r.End(); again != err || !reflect.DeepEqual(s, api.Shard{}) {
		t.Errorf("%+v, %v, want no shard and %v again", s, again, err)
	}
}

// Of a shard that is read part by part no more is kept than one piece, however great the part is.
func TestOnePieceIsKept(t *testing.T) {
	b := someBytes(someShard())
	for end := range b {
		var r Reading
		err := r.Take(b[:end])
		if !errors.Is(err, fault.TooEarly) || r.place+len(r.text) != end || len(r.text) >= r.size() {
			t.Errorf("of %d bytes %d are read and %d of %d kept, %v", end, r.place, len(r.text), r.size(), err)
		}
	}
}

func TestFirstNotNought(t *testing.T) {
	list := []byte{5, 0, 0, 6, 7}
	for from, want := range map[int]int{-9: 0, -1: 0, 0: 0, 1: 3, 3: 3, 4: 4, 5: -1, 9: -1} {
		if got := firstNotNought(list, from); got != want {
			t.Errorf("firstNotNought(.., %d) = %d, want %d", from, got, want)
		}
	}
}
