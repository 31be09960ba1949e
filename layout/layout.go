// Package layout: what stands where in a shard.
package layout

import (
	"slices"

	"cairn/api"
	"cairn/coding"
	"cairn/sum"
)

const (
	headWord    = "CAIRN1"
	tailWord    = "DONE"
	sumSize     = 8
	headSize    = 24 + sumSize
	lengthPlace = 18 // of the number of bytes that a column has
)

// ParamsFit tells whether there may be an archive of these numbers.
func ParamsFit(p api.Params) bool {
	return coding.PartsFit(p.K, p.N) && 1 <= p.Chunk && p.Chunk <= api.MaxChunk
}

// Write gives the bytes of a shard that fits. The manifest is handed in, with its sum, because it is the same in all shards of an archive.
func Write(s api.Shard, manifest []byte) []byte {
	frames := (len(s.Column) + s.Chunk - 1) / s.Chunk
	list := make([]byte, 0, headSize+len(manifest)+len(s.Column)+frames*sumSize+len(tailWord))
	list = appendHead(list, s, len(manifest)-sumSize)
	list = append(list, manifest...)
	for frame := range slices.Chunk(s.Column, s.Chunk) {
		list = append(list, frame...)
		list = appendSum(list, frame)
	}
	return append(list, tailWord...)
}

// appendHead begins a list, which is empty, with a shard's head.
func appendHead(list []byte, s api.Shard, manifestSize int) []byte {
	list = append(list, headWord...)
	list = append(list, byte(s.K), byte(s.N), byte(s.Index), 0)
	list = appendNumber(list, uint64(s.Chunk), 4)
	list = appendNumber(list, uint64(manifestSize), 4)
	list = appendNumber(list, uint64(len(s.Column)), 4)
	list = append(list, 0, 0)
	return appendSum(list, list)
}

// appendSum puts the sum of a part behind a list.
func appendSum(list []byte, part []byte) []byte {
	return appendNumber(list, sum.Of(part), sumSize)
}

// appendNumber puts a number of so many bytes behind a list, the lowest byte first.
func appendNumber(list []byte, number uint64, size int) []byte {
	for range size {
		list = append(list, byte(number))
		number >>= 8
	}
	return list
}

// readNumber gives the number that is written in a list of at most 8 bytes.
func readNumber(list []byte) uint64 {
	number := uint64(0)
	for i, b := range list {
		number |= uint64(b) << (8 * i)
	}
	return number
}
