package cairn_test

import (
	"bytes"
	"math"
	"math/rand"
	"reflect"
	"testing"

	"cairn/api"
	"cairn/cairn"
)

func column(index int, data ...byte) api.Column { return api.Column{Index: index, Data: data} }

// wantColumn is column i of an archive with these first columns, by the document's words.
func wantColumn(first [][]byte, i int) []byte {
	data := make([]byte, len(first[0]))
	for j, weight := range wantRow(len(first), i) {
		for m := range data {
			data[m] ^= multiply(weight, first[j][m])
		}
	}
	return data
}

func randomColumns(random *rand.Rand, k int, length int) [][]byte {
	columns := make([][]byte, k)
	for j := range columns {
		columns[j] = make([]byte, length)
		random.Read(columns[j])
	}
	return columns
}

// archive gives all n columns of an archive with these first columns.
func archive(first [][]byte, n int) []api.Column {
	columns := make([]api.Column, n)
	for i := range columns {
		columns[i] = api.Column{Index: i, Data: wantColumn(first, i)}
	}
	return columns
}

func checkRebuild(t *testing.T, k int, n int, given []api.Column, want [][]byte) {
	t.Helper()
	got, errno := cairn.Rebuild(k, n, given)
	if errno != api.OK || len(got) != k {
		t.Fatalf("P5: Rebuild(%d, %d, ..) = %d columns, %d, want OK", k, n, len(got), errno)
	}
	for j := range got {
		if !bytes.Equal(got[j], want[j]) {
			t.Fatalf("P5: Rebuild(%d, %d, ..): column %d = %v, want %v", k, n, j, got[j], want[j])
		}
	}
}

func TestP5Examples(t *testing.T) {
	checkRebuild(t, 1, 3, []api.Column{column(2, 142)}, [][]byte{{1}})
	checkRebuild(t, 2, 2, []api.Column{column(1, 5, 6), column(0, 7, 8)}, [][]byte{{7, 8}, {5, 6}})
}

// arrangements calls use with each ordered choice of k of the numbers below n.
func arrangements(k int, n int, chosen []int, use func([]int)) {
	if len(chosen) == k {
		use(chosen)
		return
	}
next:
	for i := range n {
		for _, c := range chosen {
			if c == i {
				continue next
			}
		}
		arrangements(k, n, append(chosen[:len(chosen):len(chosen)], i), use)
	}
}

func TestP5AnyColumnsInAnyOrder(t *testing.T) {
	random := rand.New(rand.NewSource(6))
	for n := 1; n <= 6; n++ {
		for k := 1; k <= n; k++ {
			first := randomColumns(random, k, 3)
			all := archive(first, n)
			arrangements(k, n, nil, func(indexes []int) {
				var given []api.Column
				for _, i := range indexes {
					given = append(given, all[i])
				}
				checkRebuild(t, k, n, given, first)
			})
		}
	}
}

func TestP5ManyColumns(t *testing.T) {
	random := rand.New(rand.NewSource(7))
	for _, c := range [][2]int{{1, 128}, {2, 128}, {63, 128}, {64, 128}, {65, 128}, {100, 128}, {127, 128}, {128, 128}, {50, 60}} {
		k, n := c[0], c[1]
		first := randomColumns(random, k, 5)
		all := archive(first, n)
		checkRebuild(t, k, n, all[:k], first)
		checkRebuild(t, k, n, all[n-k:], first)
		for range 4 {
			random.Shuffle(n, func(i, j int) { all[i], all[j] = all[j], all[i] })
			checkRebuild(t, k, n, all[:k], first)
		}
	}
}

func TestP5LongColumns(t *testing.T) {
	random := rand.New(rand.NewSource(8))
	first := randomColumns(random, 3, 70001)
	all := archive(first, 7)
	checkRebuild(t, 3, 7, []api.Column{all[6], all[1], all[4]}, first)
}

func TestP5EmptyColumns(t *testing.T) {
	checkRebuild(t, 1, 2, []api.Column{column(1)}, [][]byte{{}})
	checkRebuild(t, 2, 4, []api.Column{column(3), {Index: 2, Data: []byte{}}, column(0)}, [][]byte{{}, {}})
}

// Whatever bytes the given columns have, there is an archive of which they are columns.
func TestP5GivenColumnsAreThoseOfTheAnswer(t *testing.T) {
	random := rand.New(rand.NewSource(9))
	for range 200 {
		n := 1 + random.Intn(20)
		k := 1 + random.Intn(n)
		var given []api.Column
		for _, i := range random.Perm(n)[:k] {
			given = append(given, api.Column{Index: i, Data: randomColumns(random, 1, 4)[0]})
		}
		got, errno := cairn.Rebuild(k, n, given)
		if errno != api.OK || len(got) != k {
			t.Fatalf("P5: Rebuild(%d, %d, %v) = %v, %d", k, n, given, got, errno)
		}
		for _, c := range given {
			if want := wantColumn(got, c.Index); !bytes.Equal(c.Data, want) {
				t.Fatalf("P5: Rebuild(%d, %d, %v) = %v, of which column %d is %v", k, n, given, got, c.Index, want)
			}
		}
	}
}

// Only the first k count, even if a later one is of another archive, or is one that is asked for.
func TestP5LaterColumnsDoNotCount(t *testing.T) {
	random := rand.New(rand.NewSource(10))
	first := randomColumns(random, 3, 4)
	all := archive(first, 6)
	wrong := []byte{1, 2, 3, 4}
	given := []api.Column{all[5], all[1], all[3], {Index: 0, Data: wrong}, {Index: 4, Data: wrong}, {Index: 2, Data: wrong}}
	checkRebuild(t, 3, 6, given, first)
}

func TestP5WrongColumns(t *testing.T) {
	for _, c := range []struct {
		what    string
		k, n    int
		columns []api.Column
	}{
		{"no columns, nil", 1, 1, nil},
		{"no columns", 1, 1, []api.Column{}},
		{"one too few", 3, 5, []api.Column{column(0, 1), column(1, 1)}},
		{"far too few", 128, 128, []api.Column{column(0, 1)}},
		{"index n", 1, 3, []api.Column{column(3, 1)}},
		{"index n, below MaxParts, behind the first k", 1, 3, []api.Column{column(0, 1), column(3, 1)}},
		{"index MaxParts", 1, 128, []api.Column{column(128, 1)}},
		{"index -1", 1, 3, []api.Column{column(-1, 1)}},
		{"index -1 behind the first k", 1, 3, []api.Column{column(0, 1), column(-1, 1)}},
		{"the greatest index", 1, 3, []api.Column{column(math.MaxInt, 1)}},
		{"the least index", 1, 3, []api.Column{column(math.MinInt, 1)}},
		{"an index that is 0 in its lowest byte", 1, 3, []api.Column{column(256, 1)}},
		{"twice", 2, 3, []api.Column{column(1, 1), column(1, 1)}},
		{"twice, other bytes", 2, 3, []api.Column{column(1, 1), column(1, 2)}},
		{"twice, from k on", 2, 4, []api.Column{column(3, 1), column(3, 1)}},
		{"twice behind the first k", 1, 3, []api.Column{column(0, 1), column(2, 1), column(2, 1)}},
		{"twice, not side by side", 2, 3, []api.Column{column(0, 1), column(1, 1), column(0, 1)}},
		{"more than n", 1, 2, []api.Column{column(0, 1), column(1, 1), column(0, 1)}},
		{"shorter", 2, 3, []api.Column{column(0, 1, 2), column(1, 1)}},
		{"longer", 2, 3, []api.Column{column(0, 1), column(1, 1, 2)}},
		{"empty", 2, 3, []api.Column{column(0, 1), column(1)}},
		{"only the first empty", 2, 3, []api.Column{column(0), column(1, 1)}},
		{"longer behind the first k", 1, 3, []api.Column{column(0, 1), column(1, 1, 2)}},
		{"shorter behind the first k", 1, 3, []api.Column{column(0, 1), column(1, 1), column(2)}},
	} {
		if got, errno := cairn.Rebuild(c.k, c.n, c.columns); errno != api.ErrColumns || len(got) != 0 {
			t.Errorf("P5: %s: %v, %d, want ErrColumns", c.what, got, errno)
		}
	}
}

func TestP5WrongParts(t *testing.T) {
	good := []api.Column{column(0, 1), column(1, 2), column(2, 3), column(3, 4)}
	for _, c := range wrongParts() {
		if got, errno := cairn.Rebuild(c[0], c[1], good); errno != api.ErrParams || len(got) != 0 {
			t.Errorf("P5: Rebuild(%d, %d, ..) = %v, %d, want ErrParams", c[0], c[1], got, errno)
		}
	}
}

func TestP5AnswerDoesNotHangOnHowGoroutinesRun(t *testing.T) {
	random := rand.New(rand.NewSource(11))
	first := randomColumns(random, 40, 300)
	given := archive(first, 80)[40:]
	want, _ := cairn.Rebuild(40, 80, given)
	for range 20 {
		if got, errno := cairn.Rebuild(40, 80, given); errno != api.OK || !reflect.DeepEqual(got, want) {
			t.Fatalf("P5: another answer to the same columns, %d", errno)
		}
	}
}
