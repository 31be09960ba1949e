// Package archive: blobs laid up in shards, and shards put together again.
package archive

import (
	"cairn/api"
	"cairn/coding"
	"cairn/heap"
	"cairn/layout"
)

// ByName gives the blobs by their names, or false if a name may not be, or two are the same.
func ByName(blobs []api.Blob) ([]api.Blob, bool) {
	var waiting heap.Heap[string, api.Blob]
	for _, b := range blobs {
		if !layout.NameFits(b.Name) {
			return nil, false
		}
		waiting.Push(b.Name, b)
	}
	sorted := make([]api.Blob, 0, len(blobs))
	for waiting.Len() > 0 {
		b := waiting.Pop()
		if len(sorted) > 0 && sorted[len(sorted)-1].Name == b.Name {
			return nil, false
		}
		sorted = append(sorted, b)
	}
	return sorted, true
}

// Encode lays blobs that come by their names up in shards, or tells false if they are too many or too long. The params fit.
func Encode(blobs []api.Blob, p api.Params) ([][]byte, bool) {
	names, sizes := content(blobs)
	if !layout.ContentFits(names, sizes) {
		return nil, false
	}
	manifest := layout.Manifest(names, sizes)
	shards := make([][]byte, p.N)
	for i, column := range coding.Columns(p.K, p.N, join(blobs)) {
		s := api.Shard{K: p.K, N: p.N, Index: i, Chunk: p.Chunk, Names: names, Sizes: sizes, Column: column}
		shards[i] = layout.Write(s, manifest)
	}
	return shards, true
}

func content(blobs []api.Blob) (names []string, sizes []int) {
	for _, b := range blobs {
		names = append(names, b.Name)
		sizes = append(sizes, len(b.Data))
	}
	return names, sizes
}

func join(blobs []api.Blob) []byte {
	var data []byte
	for _, b := range blobs {
		data = append(data, b.Data...)
	}
	return data
}
