package coding

import (
	"math/rand"
	"reflect"
	"testing"

	"cairn/api"
	"cairn/field"
)

// timesMatrix multiplies two squares of rows.
func timesMatrix(left [][]byte, right [][]byte) [][]byte {
	answer := make([][]byte, len(left))
	for i := range left {
		answer[i] = make([]byte, len(right))
		for j := range right {
			for m := range right {
				answer[i][j] ^= field.Mul(left[i][m], right[m][j])
			}
		}
	}
	return answer
}

func unitMatrix(k int) [][]byte {
	rows := make([][]byte, k)
	for t := range rows {
		rows[t] = unitRow(k, t)
	}
	return rows
}

func chosenRows(k int, indexes []int) [][]byte {
	rows := make([][]byte, k)
	for t, c := range place(columnsOf(indexes)) {
		rows[t] = row(k, c.Index)
	}
	return rows
}

func columnsOf(indexes []int) []api.Column {
	var columns []api.Column
	for _, i := range indexes {
		columns = append(columns, api.Column{Index: i})
	}
	return columns
}

func TestInverse(t *testing.T) {
	random := rand.New(rand.NewSource(4))
	for _, c := range [][2]int{{1, 1}, {1, 2}, {2, 4}, {3, 7}, {16, 32}, {64, 128}, {63, 128}, {65, 128}, {127, 128}, {128, 128}} {
		k, n := c[0], c[1]
		for range 10 {
			indexes := random.Perm(n)[:k]
			got := timesMatrix(inverse(chosenRows(k, indexes)), chosenRows(k, indexes))
			if !reflect.DeepEqual(got, unitMatrix(k)) {
				t.Fatalf("k %d, n %d, rows %v: no inverse", k, n, indexes)
			}
		}
	}
}

func TestPlace(t *testing.T) {
	for _, c := range []struct{ given, want []int }{
		{[]int{0}, []int{0}},
		{[]int{9}, []int{9}},
		{[]int{2, 1, 0}, []int{0, 1, 2}},
		{[]int{7, 2, 5, 0}, []int{0, 7, 2, 5}},
		{[]int{7, 4, 5, 6}, []int{7, 4, 5, 6}},
		{[]int{3, 2, 8, 1}, []int{8, 1, 2, 3}},
	} {
		if got := place(columnsOf(c.given)); !reflect.DeepEqual(got, columnsOf(c.want)) {
			t.Errorf("place(%v) = %v, want the indexes %v", c.given, got, c.want)
		}
	}
}

func TestCombine(t *testing.T) {
	columns := [][]byte{{1, 2, 0}, {255, 0, 7}, {9, 9, 9}}
	got := Combine([]byte{3, 1, 0}, columns)
	if want := []byte{3 ^ 255, 6, 7}; !reflect.DeepEqual(got, want) {
		t.Errorf("Combine = %v, want %v", got, want)
	}
	if got := Combine([]byte{5}, [][]byte{{}}); len(got) != 0 {
		t.Errorf("Combine of an empty column = %v", got)
	}
}

func TestLength(t *testing.T) {
	for k := 1; k <= 128; k++ {
		for total := range 400 {
			if got := Length(k, total); k*got < total || k*(got-1) >= total && got > 0 {
				t.Fatalf("Length(%d, %d) = %d", k, total, got)
			}
		}
	}
}

func TestColumns(t *testing.T) {
	got := Columns(2, 4, []byte{1, 2, 3})
	want := [][]byte{{1, 2}, {3, 0}, {field.Mul(142, 1) ^ field.Mul(244, 3), field.Mul(142, 2)}, {field.Mul(244, 1) ^ field.Mul(142, 3), field.Mul(244, 2)}}
	if !reflect.DeepEqual(got, want) {
		t.Errorf("Columns = %v, want %v", got, want)
	}
	for i, column := range Columns(3, 5, nil) {
		if len(column) != 0 {
			t.Errorf("column %d of no data = %v", i, column)
		}
	}
}

func TestUsed(t *testing.T) {
	for k := 1; k <= 6; k++ {
		for total := range 20 {
			length := Length(k, total)
			for i := range 8 {
				want := 0
				for m := range length {
					if i >= k || i*length+m < total {
						want++
					}
				}
				if got := Used(k, i, total); got != want {
					t.Errorf("Used(%d, %d, %d) = %d, want %d", k, i, total, got, want)
				}
			}
		}
	}
}
