// Package cairn: an archive in parts, of which any so many give the whole back: see DOC.md.
package cairn

import (
	"errors"

	"cairn/api"
	"cairn/archive"
	"cairn/coding"
	"cairn/fault"
	"cairn/field"
	"cairn/layout"
	"cairn/sum"
)

// Reader takes a shard part by part.
type Reader struct {
	made    *Reader         // itself, if NewReader made it; so a copy is known
	reading *layout.Reading // nil behind Finish
}

// Mul multiplies two bytes (P3).
func Mul(a byte, b byte) byte { return field.Mul(a, b) }

// Inv gives a byte's inverse (P3).
func Inv(a byte) byte { return field.Inv(a) }

// Sum gives the sum of some bytes (P3).
func Sum(data []byte) uint64 { return sum.Of(data) }

// Rows gives the rows for k and n (P4).
func Rows(k int, n int) ([][]byte, api.Errno) {
	if !coding.PartsFit(k, n) {
		return nil, api.ErrParams
	}
	return coding.Rows(k, n), api.OK
}

// Rebuild gives the first k columns by any k (P5).
func Rebuild(k int, n int, columns []api.Column) ([][]byte, api.Errno) {
	if !coding.PartsFit(k, n) {
		return nil, api.ErrParams
	}
	if !coding.ColumnsFit(k, n, columns) {
		return nil, api.ErrColumns
	}
	return coding.Rebuild(k, columns), api.OK
}

// Encode lays blobs up in shards (P6).
func Encode(blobs []api.Blob, p api.Params) ([][]byte, api.Errno) {
	if !layout.ParamsFit(p) {
		return nil, api.ErrParams
	}
	sorted, ok := archive.ByName(blobs)
	if !ok {
		return nil, api.ErrName
	}
	shards, ok := archive.Encode(sorted, p)
	if !ok {
		return nil, api.ErrMany
	}
	return shards, api.OK
}

// Parse reads a shard (P7).
func Parse(shard []byte) (api.Shard, api.Errno, int) {
	r := NewReader()
	r.Feed(shard)
	return r.Finish()
}

// Write writes a shard (P8).
func Write(s api.Shard) ([]byte, api.Errno) {
	if errno := layout.Check(s); errno != api.OK {
		return nil, errno
	}
	return layout.Write(s, layout.Manifest(s.Names, s.Sizes)), api.OK
}

// Decode gives the blobs back (P10).
func Decode(shards [][]byte) ([]api.Blob, api.Verdicts, api.Errno) {
	verdicts := make(api.Verdicts, len(shards))
	var taken []api.Shard
	for i, text := range shards {
		shard, errno, _ := Parse(text)
		verdicts[i] = errno
		if errno == api.OK {
			taken = append(taken, shard)
		}
	}
	blobs, err := archive.Decode(taken)
	errno, _ := answer(err)
	return blobs, verdicts, errno
}

// NewReader makes a Reader (P9).
func NewReader() *Reader {
	r := &Reader{reading: &layout.Reading{}}
	r.made = r
	return r
}

// Feed takes bytes of a shard (P9).
func (r *Reader) Feed(part []byte) (api.Errno, int) {
	if r.closed() {
		return api.ErrClosed, 0
	}
	err := r.reading.Take(part)
	if errors.Is(err, fault.TooEarly) {
		return api.OK, 0
	}
	return answer(err)
}

// Finish tells what the shard is (P9).
func (r *Reader) Finish() (api.Shard, api.Errno, int) {
	if r.closed() {
		return api.Shard{}, api.ErrClosed, 0
	}
	shard, err := r.reading.End()
	r.reading = nil
	errno, place := answer(err)
	return shard, errno, place
}

func (r *Reader) closed() bool {
	return r == nil || r.made != r || r.reading == nil
}

// answer gives the error and the place that an error of the packages inside tells of.
func answer(err error) (api.Errno, int) {
	var found *fault.Fault
	if errors.As(err, &found) {
		return found.Errno, found.Place
	}
	return api.OK, 0
}
