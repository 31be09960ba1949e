package cairn_test

import (
	"math"
	"reflect"
	"testing"

	"cairn/api"
	"cairn/cairn"
)

// wantRow is row i for k, by the document's words.
func wantRow(k int, i int) []byte {
	row := make([]byte, k)
	for j := range row {
		switch {
		case i >= k:
			row[j] = inverseBySearch(byte(i ^ j))
		case i == j:
			row[j] = 1
		}
	}
	return row
}

func inverseBySearch(a byte) byte {
	for b := range 256 {
		if multiply(a, byte(b)) == 1 {
			return byte(b)
		}
	}
	return 0
}

func TestP4Examples(t *testing.T) {
	got, errno := cairn.Rows(2, 4)
	want := [][]byte{{1, 0}, {0, 1}, {142, 244}, {244, 142}}
	if errno != api.OK || !reflect.DeepEqual(got, want) {
		t.Errorf("P4: Rows(2, 4) = %v, %d, want %v", got, errno, want)
	}
}

func TestP4Rows(t *testing.T) {
	for _, c := range [][2]int{{1, 1}, {1, 2}, {2, 2}, {1, 128}, {3, 9}, {64, 128}, {127, 128}, {128, 128}, {5, 127}} {
		k, n := c[0], c[1]
		got, errno := cairn.Rows(k, n)
		if errno != api.OK || len(got) != n {
			t.Fatalf("P4: Rows(%d, %d) = %d rows, %d", k, n, len(got), errno)
		}
		for i := range got {
			if want := wantRow(k, i); !reflect.DeepEqual(got[i], want) {
				t.Errorf("P4: Rows(%d, %d), row %d = %v, want %v", k, n, i, got[i], want)
			}
		}
	}
}

// wrongParts are the k and n that P4 refuses, at the edges and far behind them.
func wrongParts() [][2]int {
	return [][2]int{
		{0, 4}, {5, 4}, {1, 129}, {129, 129}, {128, 129}, {129, 128}, {0, 0}, {1, 0}, {0, 1}, {2, 1}, {-1, 4}, {1, -1}, {-1, -1}, {-2, -1},
		{1, math.MaxInt}, {math.MaxInt, math.MaxInt}, {math.MinInt, math.MinInt}, {math.MinInt, 4}, {math.MaxInt, 4}, {1, math.MinInt},
		{256, 256}, {257, 257}, {1, 257}, {1, 1<<32 + 1}, {1<<32 + 1, 4},
	}
}

func TestP4WrongParts(t *testing.T) {
	for _, c := range wrongParts() {
		if got, errno := cairn.Rows(c[0], c[1]); errno != api.ErrParams || len(got) != 0 {
			t.Errorf("P4: Rows(%d, %d) = %d rows, %d, want ErrParams", c[0], c[1], len(got), errno)
		}
	}
}
