package coding

import "sync"

// Length gives how many bytes each of k columns has that together have room for so many bytes of data.
func Length(k int, total int) int {
	return (total + k - 1) / k
}

// Used gives how many bytes of column i, from its first on, stand for data or are worked out of it. The others fill it up.
func Used(k int, i int, total int) int {
	length := Length(k, total)
	if i >= k {
		return length
	}
	return max(0, min(length, total-i*length))
}

// Columns gives the n columns of an archive of this data, of which any k give it back. k and n fit.
//
// Those below k are worked out like the others: their rows are 0 but for a 1 at their own place, and so what comes out is their piece of the data.
func Columns(k int, n int, data []byte) [][]byte {
	pieces := cut(k, data)
	columns := make([][]byte, n)
	var workers sync.WaitGroup
	for i := range columns {
		workers.Add(1)
		go func() {
			defer workers.Done()
			columns[i] = Combine(row(k, i), pieces)
		}()
	}
	workers.Wait()
	return columns
}

// cut gives the data in k pieces of one length, filled up with noughts.
func cut(k int, data []byte) [][]byte {
	length := Length(k, len(data))
	filled := make([]byte, k*length)
	copy(filled, data)
	pieces := make([][]byte, k)
	for j := range pieces {
		pieces[j] = filled[j*length : (j+1)*length]
	}
	return pieces
}
