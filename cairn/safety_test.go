package cairn_test

import (
	"bytes"
	"math"
	"math/rand"
	"testing"

	"cairn/api"
	"cairn/cairn"
)

// edges are numbers at and behind the limits.
func edges() []int {
	return []int{math.MinInt, math.MinInt + 1, math.MinInt32, -129, -1, 0, 1, 2, 127, 128, 129, 255, 256, 65536, math.MaxInt32, math.MaxInt - 1, math.MaxInt}
}

func partsFit(k int, n int) bool { return 1 <= k && k <= n && n <= 128 }

func TestP1RowsEndsAtAllNumbers(t *testing.T) {
	for _, k := range edges() {
		for _, n := range edges() {
			rows, errno := cairn.Rows(k, n)
			if partsFit(k, n) != (errno == api.OK) || errno != api.OK && len(rows) != 0 {
				t.Errorf("P1: Rows(%d, %d) = %d rows, %d", k, n, len(rows), errno)
			}
		}
	}
}

func TestP1RebuildEndsAtAllNumbers(t *testing.T) {
	for _, k := range edges() {
		for _, n := range edges() {
			for _, index := range edges() {
				given := []api.Column{{Index: index, Data: []byte{1}}}
				want := api.OK
				switch {
				case !partsFit(k, n):
					want = api.ErrParams
				case k > 1 || index < 0 || index >= n:
					want = api.ErrColumns
				}
				got, errno := cairn.Rebuild(k, n, given)
				if errno != want || errno != api.OK && len(got) != 0 {
					t.Errorf("P1: Rebuild(%d, %d, index %d) = %v, %d, want %d", k, n, index, got, errno, want)
				}
			}
		}
	}
}

func TestP1ErrorNamedFirst(t *testing.T) {
	for _, columns := range [][]api.Column{nil, {column(-1)}, {column(0, 1), column(0, 1)}, {column(0, 1), column(1)}} {
		for _, c := range wrongParts() {
			if got, errno := cairn.Rebuild(c[0], c[1], columns); errno != api.ErrParams || len(got) != 0 {
				t.Errorf("P1: Rebuild(%d, %d, %v) = %v, %d, want ErrParams", c[0], c[1], columns, got, errno)
			}
		}
	}
}

func TestP1RebuildEndsAtAnyLists(t *testing.T) {
	random := rand.New(rand.NewSource(12))
	for range 3000 {
		k, n := random.Intn(6)-1, random.Intn(8)-1
		given := make([]api.Column, random.Intn(7))
		for i := range given {
			given[i] = api.Column{Index: random.Intn(8) - 1, Data: make([]byte, random.Intn(2))}
		}
		got, errno := cairn.Rebuild(k, n, given)
		if errno == api.OK && len(got) != k || errno != api.OK && len(got) != 0 {
			t.Errorf("P1: Rebuild(%d, %d, %v) = %v, %d", k, n, given, got, errno)
		}
	}
}

// roomy gives data with bytes ahead of it and spare room behind it, and the whole.
func roomy(data []byte) (inner []byte, whole []byte) {
	whole = bytes.Repeat([]byte{0xA5}, len(data)+16)
	copy(whole[8:], data)
	return whole[8 : 8+len(data)], whole
}

func TestP2SumLeavesItsBytes(t *testing.T) {
	inner, whole := roomy([]byte("123456789"))
	before := bytes.Clone(whole)
	cairn.Sum(inner)
	if !bytes.Equal(whole, before) {
		t.Errorf("P2: Sum wrote: %v", whole)
	}
}

// scribble writes over a list and its spare room.
func scribble(list []byte, fill byte) {
	list = list[:cap(list)]
	for m := range list {
		list[m] = fill
	}
}

// checkApart fails if two lists share memory, spare room too.
func checkApart(t *testing.T, lists [][]byte) {
	t.Helper()
	for i, list := range lists {
		scribble(list, byte(i+1))
	}
	for i, list := range lists {
		for _, b := range list[:cap(list)] {
			if b != byte(i+1) {
				t.Fatalf("P2: list %d shares memory with another", i)
			}
		}
	}
	for i := range lists[len(lists):cap(lists)] {
		if lists[:cap(lists)][len(lists)+i] != nil {
			t.Fatalf("P2: something stands behind the answer's lists")
		}
	}
}

func TestP2RowsAreNewMemory(t *testing.T) {
	for _, c := range [][2]int{{1, 1}, {2, 4}, {3, 3}, {64, 128}, {128, 128}} {
		rows, _ := cairn.Rows(c[0], c[1])
		checkApart(t, rows)
		again, _ := cairn.Rows(c[0], c[1])
		for i := range again {
			if !bytes.Equal(again[i], wantRow(c[0], i)) {
				t.Fatalf("P2: Rows(%d, %d) hangs on what was done to an earlier answer", c[0], c[1])
			}
		}
	}
}

// roomyItems gives items that have spare room behind the data of each and items behind them, all of these, and the memory of the data.
func roomyItems[T any](items []T, data func(*T) *[]byte, behind T) (inner []T, full []T, wholes [][]byte) {
	full = append([]T(nil), items...)
	for i := range full {
		list := data(&full[i])
		room, whole := roomy(*list)
		*list = room
		wholes = append(wholes, whole)
	}
	full = append(full, behind, behind, behind)
	return full[:len(items)], full, wholes
}

func roomyColumns(columns []api.Column) (inner []api.Column, full []api.Column, wholes [][]byte) {
	return roomyItems(columns, func(c *api.Column) *[]byte { return &c.Data }, column(-77, 7))
}

func TestP2RebuildLeavesItsColumns(t *testing.T) {
	random := rand.New(rand.NewSource(13))
	first := randomColumns(random, 3, 6)
	all := archive(first, 6)
	for _, indexes := range [][]int{{0, 1, 2}, {2, 1, 0}, {5, 4, 3}, {5, 1, 3}, {4, 0, 1, 2, 3, 5}, {0, 0, 1}} {
		var chosen []api.Column
		for _, i := range indexes {
			chosen = append(chosen, all[i])
		}
		given, full, wholes := roomyColumns(chosen)
		cairn.Rebuild(3, 6, given)
		for i, c := range chosen {
			_, want := roomy(c.Data)
			if !bytes.Equal(wholes[i], want) || given[i].Index != c.Index || &given[i].Data[0] != &wholes[i][8] {
				t.Errorf("P2: Rebuild of %v wrote into column %d", indexes, i)
			}
		}
		for _, c := range full[len(given):] {
			if c.Index != -77 || len(c.Data) != 1 || c.Data[0] != 7 {
				t.Errorf("P2: Rebuild of %v wrote behind its columns", indexes)
			}
		}
	}
}

func TestP2RebuildAnswersNewMemory(t *testing.T) {
	random := rand.New(rand.NewSource(14))
	first := randomColumns(random, 3, 6)
	all := archive(first, 6)
	for _, indexes := range [][]int{{0, 1, 2}, {5, 4, 3}, {5, 1, 3}, {2, 4, 0, 1}} {
		var chosen []api.Column
		for _, i := range indexes {
			chosen = append(chosen, all[i])
		}
		given, _, wholes := roomyColumns(chosen)
		answer, errno := cairn.Rebuild(3, 6, given)
		if errno != api.OK || len(answer) != 3 {
			t.Fatalf("P2: Rebuild of %v = %v, %d", indexes, answer, errno)
		}
		for _, whole := range wholes {
			scribble(whole, 0)
		}
		for j := range answer {
			if !bytes.Equal(answer[j], first[j]) {
				t.Errorf("P2: Rebuild of %v: column %d is that of the caller", indexes, j)
			}
		}
		checkApart(t, append(answer, wholes...))
	}
}

// One list handed in as several columns is read only.
func TestP2RebuildOfOneListTwice(t *testing.T) {
	shared := []byte{9, 8, 7}
	answer, errno := cairn.Rebuild(2, 3, []api.Column{{Index: 0, Data: shared}, {Index: 1, Data: shared}})
	if errno != api.OK || len(answer) != 2 {
		t.Fatalf("P2: Rebuild = %v, %d", answer, errno)
	}
	checkApart(t, append(answer, shared))
}

func TestP1EncodeEndsAtAllNumbers(t *testing.T) {
	for _, k := range edges() {
		for _, n := range edges() {
			for _, chunk := range edges() {
				fits := partsFit(k, n) && 1 <= chunk && chunk <= 65536
				shards, errno := cairn.Encode([]api.Blob{blob("a", "xyz")}, api.Params{K: k, N: n, Chunk: chunk})
				if fits && (errno != api.OK || len(shards) != n) || !fits && (errno != api.ErrParams || len(shards) != 0) {
					t.Errorf("P1: Encode(.., {%d, %d, %d}) = %d shards, %d", k, n, chunk, len(shards), errno)
				}
			}
		}
	}
}

func TestP1EncodeEndsAtAnyLists(t *testing.T) {
	random := rand.New(rand.NewSource(15))
	lengths := []int{0, 1, 1, 1, 2, 2, 255, 256}
	for range 3000 {
		n := random.Intn(6) - 1
		p := api.Params{K: random.Intn(6) - 1, N: n, Chunk: random.Intn(5) - 1}
		blobs := make([]api.Blob, random.Intn(5))
		for i := range blobs {
			name := make([]byte, lengths[random.Intn(len(lengths))])
			random.Read(name)
			blobs[i] = api.Blob{Name: string(name), Data: make([]byte, random.Intn(4))}
		}
		shards, errno := cairn.Encode(blobs, p)
		if errno == api.OK && len(shards) != n || errno != api.OK && len(shards) != 0 {
			t.Errorf("P1: Encode(%v, %v) = %d shards, %d", blobs, p, len(shards), errno)
		}
	}
}

func roomyBlobs(blobs []api.Blob) (inner []api.Blob, full []api.Blob, wholes [][]byte) {
	return roomyItems(blobs, func(b *api.Blob) *[]byte { return &b.Data }, blob("behind", "behind"))
}

func TestP2EncodeLeavesItsBlobs(t *testing.T) {
	for _, blobs := range [][]api.Blob{
		{blob("c", "333"), blob("a", "1"), blob("b", "22"), blob("d", "")},
		{blob("b", "333"), blob("a", "1"), blob("b", "22")},
		{blob("b", "333"), blob("", "1"), blob("a", "22")},
		{blob("b", "333"), blob("a", string(make([]byte, 65536)))},
	} {
		for _, p := range []api.Params{{K: 2, N: 4, Chunk: 1}, {K: 1, N: 1, Chunk: 9}, {K: 3, N: 2, Chunk: 1}} {
			given, full, wholes := roomyBlobs(blobs)
			cairn.Encode(given, p)
			for i, b := range blobs {
				_, want := roomy(b.Data)
				if !bytes.Equal(wholes[i], want) || given[i].Name != b.Name || &given[i].Data[:1][0] != &wholes[i][8] {
					t.Errorf("P2: Encode wrote into blob %d of %d", i, len(blobs))
				}
			}
			for _, b := range full[len(given):] {
				if b.Name != "behind" || string(b.Data) != "behind" {
					t.Errorf("P2: Encode wrote behind its blobs")
				}
			}
		}
	}
}

func TestP2EncodeAnswersNewMemory(t *testing.T) {
	blobs := []api.Blob{blob("c", "333"), blob("a", "1"), blob("b", "22"), blob("d", "")}
	for _, p := range []api.Params{{K: 1, N: 1, Chunk: 9}, {K: 1, N: 3, Chunk: 6}, {K: 2, N: 4, Chunk: 1}, {K: 4, N: 4, Chunk: 2}} {
		for _, list := range [][]api.Blob{nil, blobs[:1], blobs} {
			given, _, wholes := roomyBlobs(list)
			shards, errno := cairn.Encode(given, p)
			for _, whole := range wholes {
				scribble(whole, 0)
			}
			checkShards(t, "blobs changed afterwards", shards, errno, wantShards(list, p))
			checkApart(t, append(shards, wholes...))
			checkEncode(t, "shards changed afterwards", list, p)
		}
	}
}

// One list handed in as the data of several blobs is read only.
func TestP2EncodeOfOneListTwice(t *testing.T) {
	shared := []byte("shared data")
	blobs := []api.Blob{{Name: "b", Data: shared[:4]}, {Name: "a", Data: shared}, {Name: "c", Data: shared[2:6]}}
	checkEncode(t, "one list in several blobs", blobs, api.Params{K: 2, N: 4, Chunk: 3})
	if string(shared) != "shared data" {
		t.Errorf("P2: Encode wrote: %q", shared)
	}
}
