// Package coding: the columns of an archive, and how any so many of them give the others.
package coding

import (
	"cairn/api"
	"cairn/field"
)

// PartsFit tells whether there may be an archive of n columns of which any k give it back.
func PartsFit(k int, n int) bool {
	return 1 <= k && k <= n && n <= api.MaxParts
}

// Rows gives the rows for k and n, which fit.
func Rows(k int, n int) [][]byte {
	rows := make([][]byte, n)
	for i := range rows {
		rows[i] = row(k, i)
	}
	return rows
}

func row(k int, i int) []byte {
	if i < k {
		return unitRow(k, i)
	}
	list := make([]byte, k)
	for j := range list {
		list[j] = field.Inv(byte(i ^ j))
	}
	return list
}

func unitRow(k int, i int) []byte {
	list := make([]byte, k)
	list[i] = 1
	return list
}

// Combine adds columns of one length up, each multiplied by its weight. There is at least one.
func Combine(weights []byte, columns [][]byte) []byte {
	total := make([]byte, len(columns[0]))
	for j, column := range columns {
		field.AddTimes(total, weights[j], column)
	}
	return total
}
