package coding

import (
	"sync"

	"cairn/api"
)

// ColumnsFit tells whether columns are enough and may stand together. k and n fit.
func ColumnsFit(k int, n int, columns []api.Column) bool {
	if len(columns) < k {
		return false
	}
	var seen [api.MaxParts]bool
	for _, c := range columns {
		if c.Index < 0 || c.Index >= n || seen[c.Index] || len(c.Data) != len(columns[0].Data) {
			return false
		}
		seen[c.Index] = true
	}
	return true
}

// Rebuild gives the columns 0 to k - 1 by the first k of those given, which fit.
func Rebuild(k int, columns []api.Column) [][]byte {
	placed := place(columns[:k])
	rows := make([][]byte, k)
	data := make([][]byte, k)
	for t, c := range placed {
		rows[t] = row(k, c.Index)
		data[t] = c.Data
	}
	weights := inverse(rows)

	answer := make([][]byte, k)
	var missing sync.WaitGroup
	for j, c := range placed {
		if c.Index == j {
			answer[j] = copyOf(c.Data)
			continue
		}
		missing.Add(1)
		go func() {
			defer missing.Done()
			answer[j] = Combine(weights[j], data)
		}()
	}
	missing.Wait()
	return answer
}

// place puts each column that is wanted itself at its own place, and the others, in their order, where one is missing.
func place(columns []api.Column) []api.Column {
	placed := make([]api.Column, len(columns))
	filled := make([]bool, len(columns))
	var others []api.Column
	for _, c := range columns {
		if c.Index < len(columns) {
			placed[c.Index] = c
			filled[c.Index] = true
		} else {
			others = append(others, c)
		}
	}
	for t := range placed {
		if !filled[t] {
			placed[t] = others[0]
			others = others[1:]
		}
	}
	return placed
}

func copyOf(data []byte) []byte {
	list := make([]byte, len(data))
	copy(list, data)
	return list
}
