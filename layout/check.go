package layout

import (
	"cairn/api"
	"cairn/coding"
)

// Check gives the first error that keeps a shard from being written.
func Check(s api.Shard) api.Errno {
	switch {
	case !ParamsFit(api.Params{K: s.K, N: s.N, Chunk: s.Chunk}) || s.Index < 0 || s.Index >= s.N:
		return api.ErrParams
	case !listFits(s.Names, s.Sizes):
		return api.ErrName
	case !ContentFits(s.Names, s.Sizes):
		return api.ErrMany
	}
	total := Total(s.Sizes)
	switch {
	case len(s.Column) != coding.Length(s.K, total):
		return api.ErrColumns
	case firstNotNought(s.Column, coding.Used(s.K, s.Index, total)) >= 0:
		return api.ErrPad
	}
	return api.OK
}

// firstNotNought gives the first place from one on where a list has not 0, or -1. That one may be ahead of the list, or behind it.
func firstNotNought(list []byte, from int) int {
	for m := max(0, from); m < len(list); m++ {
		if list[m] != 0 {
			return m
		}
	}
	return -1
}
