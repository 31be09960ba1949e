package layout

import (
	"errors"

	"cairn/api"
	"cairn/coding"
	"cairn/fault"
	"cairn/sum"
)

// piece is what of a shard is being read.
type piece int

const (
	headPiece piece = iota
	manifestPiece
	framePiece
	tailPiece
	noPiece
)

// Reading is a shard that is being read, as far as its bytes have come. Its zero value has none.
//
// It keeps the bytes of one piece at most, and reads them when the piece is whole: so no byte is gone through again and again, however small the parts are.
type Reading struct {
	shard        api.Shard // what the pieces read tell
	manifestSize int
	length       int // of a column
	total        int // of the data
	next         piece
	place        int    // where the next piece begins
	text         []byte // what has come of it
	fault        error  // the one that stays
}

// Take reads on with a part, and tells what is wrong with all bytes up to now.
func (r *Reading) Take(part []byte) error {
	if r.fault != nil {
		return r.fault
	}
	err := r.readOn(part)
	if err != nil && !errors.Is(err, fault.TooEarly) {
		*r = Reading{fault: err}
	}
	return err
}

// End gives the shard, or what is wrong with all bytes. The shard's lists are not copied: nothing is to be read or ended afterwards.
func (r *Reading) End() (api.Shard, error) {
	if err := r.Take(nil); err != nil {
		return api.Shard{}, err
	}
	return r.shard, nil
}

func (r *Reading) readOn(part []byte) error {
	for r.next != noPiece {
		part = r.fill(part)
		if err := r.read(); err != nil {
			return err
		}
		r.moveOn()
	}
	if len(part) > 0 {
		return fault.Within("behind the tail", fault.At(api.ErrMore, r.place))
	}
	return nil
}

// fill takes what the next piece is still without off a part, and gives the rest.
func (r *Reading) fill(part []byte) []byte {
	count := min(r.size()-len(r.text), len(part))
	r.text = append(r.text, part[:count]...)
	return part[count:]
}

// size gives how many bytes the next piece has.
func (r *Reading) size() int {
	switch r.next {
	case headPiece:
		return headSize
	case manifestPiece:
		return r.manifestSize + sumSize
	case framePiece:
		return min(r.shard.Chunk, r.length-len(r.shard.Column)) + sumSize
	}
	return len(tailWord)
}

func (r *Reading) read() error {
	switch r.next {
	case headPiece:
		return fault.Within("the head", r.readHead())
	case manifestPiece:
		return fault.Within("the manifest", r.readManifest())
	case framePiece:
		return fault.Within("a frame", r.readFrame())
	}
	return fault.Within("the tail", r.readTail())
}

func (r *Reading) moveOn() {
	r.place += len(r.text)
	r.text = r.text[:0]
	switch {
	case r.next == headPiece:
		r.next = manifestPiece
	case r.next == tailPiece:
		r.next = noPiece
	case len(r.shard.Column) < r.length:
		r.next = framePiece
	default:
		r.next = tailPiece
	}
}

func (r *Reading) readHead() error {
	if err := r.begins(headWord); err != nil {
		return err
	}
	text, err := r.sealed()
	if err != nil {
		return err
	}
	return r.readNumbers(text)
}

// readNumbers reads the head's numbers. Each has its place, and how small and how great it may be.
func (r *Reading) readNumbers(text []byte) error {
	number := func(place int, size int) int { return int(readNumber(text[place : place+size])) }
	s := &r.shard
	s.K, s.N, s.Index, s.Chunk = number(6, 1), number(7, 1), number(8, 1), number(10, 4)
	r.manifestSize, r.length = number(14, 4), number(lengthPlace, 4)
	for _, n := range []struct{ place, value, least, most int }{
		{6, s.K, 1, api.MaxParts},
		{7, s.N, s.K, api.MaxParts},
		{8, s.Index, 0, s.N - 1},
		{9, number(9, 1), 0, 0},
		{10, s.Chunk, 1, api.MaxChunk},
		{14, r.manifestSize, besideBlobs, api.MaxManifest},
		{lengthPlace, r.length, 0, api.MaxTotal},
		{22, number(22, 2), 0, 0},
	} {
		if n.value < n.least || n.value > n.most {
			return fault.At(api.ErrParams, n.place)
		}
	}
	return nil
}

func (r *Reading) readManifest() error {
	text, err := r.sealed()
	if err != nil {
		return err
	}
	l := listing{text: text, place: r.place}
	if err := l.read(); err != nil {
		return err
	}
	r.shard.Names, r.shard.Sizes, r.total = l.names, l.sizes, l.total
	if r.length != coding.Length(r.shard.K, r.total) {
		return fault.At(api.ErrManifest, lengthPlace)
	}
	r.shard.Column = make([]byte, 0, r.length)
	return nil
}

func (r *Reading) readFrame() error {
	text, err := r.sealed()
	if err != nil {
		return err
	}
	begin := len(r.shard.Column)
	used := coding.Used(r.shard.K, r.shard.Index, r.total)
	if at := firstNotNought(text, used-begin); at >= 0 {
		return fault.At(api.ErrPad, r.place+at)
	}
	r.shard.Column = append(r.shard.Column, text...)
	return nil
}

func (r *Reading) readTail() error {
	if err := r.begins(tailWord); err != nil {
		return err
	}
	return r.whole()
}

// begins holds what has come of a piece against the word that it begins with.
func (r *Reading) begins(word string) error {
	for i := range min(len(word), len(r.text)) {
		if r.text[i] != word[i] {
			return fault.At(api.ErrMagic, r.place+i)
		}
	}
	return nil
}

func (r *Reading) whole() error {
	if len(r.text) < r.size() {
		return fault.At(api.ErrShort, r.place+len(r.text))
	}
	return nil
}

// sealed gives the bytes of a piece ahead of its sum, if they are those that the sum is of.
func (r *Reading) sealed() ([]byte, error) {
	if err := r.whole(); err != nil {
		return nil, err
	}
	end := len(r.text) - sumSize
	if sum.Of(r.text[:end]) != readNumber(r.text[end:]) {
		return nil, fault.At(api.ErrSum, r.place+end)
	}
	return r.text[:end], nil
}
