package archive

import (
	"bytes"
	"slices"

	"cairn/api"
	"cairn/coding"
	"cairn/fault"
	"cairn/heap"
	"cairn/layout"
)

// Decode gives the blobs, by their names, of which all these shards are. The shards are each what a whole one tells.
//
// The place of a fault counts shards, by their indexes.
func Decode(shards []api.Shard) ([]api.Blob, error) {
	sorted := byIndex(shards)
	if err := together(sorted); err != nil {
		return nil, fault.Within("the shards", err)
	}
	data, err := dataOf(sorted)
	if err != nil {
		return nil, fault.Within("the columns", err)
	}
	return cut(sorted[0].Names, sorted[0].Sizes, data), nil
}

func byIndex(shards []api.Shard) []api.Shard {
	var waiting heap.Heap[int, api.Shard]
	for _, s := range shards {
		waiting.Push(s.Index, s)
	}
	sorted := make([]api.Shard, 0, len(shards))
	for waiting.Len() > 0 {
		sorted = append(sorted, waiting.Pop())
	}
	return sorted
}

// together tells what keeps shards that come by their indexes from being put together, whatever their columns are.
func together(sorted []api.Shard) error {
	for t, s := range sorted {
		if !ofOneArchive(sorted[0], s) {
			return fault.At(api.ErrMixed, t)
		}
	}
	for t := 1; t < len(sorted); t++ {
		if sorted[t].Index == sorted[t-1].Index {
			return fault.At(api.ErrTwice, t)
		}
	}
	if len(sorted) == 0 || len(sorted) < sorted[0].K {
		return fault.At(api.ErrFew, len(sorted))
	}
	return nil
}

func ofOneArchive(a api.Shard, b api.Shard) bool {
	return a.K == b.K && a.N == b.N && a.Chunk == b.Chunk && slices.Equal(a.Names, b.Names) && slices.Equal(a.Sizes, b.Sizes)
}

// dataOf gives the data of which the columns of all these shards are.
//
// The first K leave no choice: if there is such data, it is what they give back. What fills the columns up may still be wrong then,
// and so may the columns behind the first K: both show when all columns are worked out of the data again.
func dataOf(sorted []api.Shard) ([]byte, error) {
	k, n, total := sorted[0].K, sorted[0].N, layout.Total(sorted[0].Sizes)
	columns := make([]api.Column, len(sorted))
	for t, s := range sorted {
		columns[t] = api.Column{Index: s.Index, Data: s.Column}
	}
	data := bytes.Join(coding.Rebuild(k, columns), nil)[:total]
	again := coding.Columns(k, n, data)
	for t, c := range columns {
		if !bytes.Equal(c.Data, again[c.Index]) {
			return nil, fault.At(api.ErrOdd, t)
		}
	}
	return data, nil
}

// cut gives the blobs of these names and sizes, of which this is the data.
func cut(names []string, sizes []int, data []byte) []api.Blob {
	blobs := make([]api.Blob, len(names))
	for i, name := range names {
		blobs[i] = api.Blob{Name: name, Data: bytes.Clone(data[:sizes[i]])}
		data = data[sizes[i]:]
	}
	return blobs
}
