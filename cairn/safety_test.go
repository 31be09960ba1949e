package cairn_test

import (
	"bytes"
	"encoding/binary"
	"math"
	"math/rand"
	"slices"
	"testing"

	"cairn/api"
	"cairn/cairn"
)

// edges are numbers at and behind the limits.
func edges() []int {
	return []int{math.MinInt, math.MinInt + 1, math.MinInt32, -129, -1, 0, 1, 2, 127, 128, 129, 255, 256, 65536, math.MaxInt32, math.MaxInt - 1, math.MaxInt}
}

func partsFit(k int, n int) bool { return 1 <= k && k <= n && n <= 128 }

func TestP1RowsEndsAtAllNumbers(t *testing.T) {
	for _, k := range edges() {
		for _, n := range edges() {
			rows, errno := cairn.Rows(k, n)
			if partsFit(k, n) != (errno == api.OK) || errno != api.OK && len(rows) != 0 {
				t.Errorf("P1: Rows(%d, %d) = %d rows, %d", k, n, len(rows), errno)
			}
		}
	}
}

func TestP1RebuildEndsAtAllNumbers(t *testing.T) {
	for _, k := range edges() {
		for _, n := range edges() {
			for _, index := range edges() {
				given := []api.Column{{Index: index, Data: []byte{1}}}
				want := api.OK
				switch {
				case !partsFit(k, n):
					want = api.ErrParams
				case k > 1 || index < 0 || index >= n:
					want = api.ErrColumns
				}
				got, errno := cairn.Rebuild(k, n, given)
				if errno != want || errno != api.OK && len(got) != 0 {
					t.Errorf("P1: Rebuild(%d, %d, index %d) = %v, %d, want %d", k, n, index, got, errno, want)
				}
			}
		}
	}
}

func TestP1ErrorNamedFirst(t *testing.T) {
	for _, columns := range [][]api.Column{nil, {column(-1)}, {column(0, 1), column(0, 1)}, {column(0, 1), column(1)}} {
		for _, c := range wrongParts() {
			if got, errno := cairn.Rebuild(c[0], c[1], columns); errno != api.ErrParams || len(got) != 0 {
				t.Errorf("P1: Rebuild(%d, %d, %v) = %v, %d, want ErrParams", c[0], c[1], columns, got, errno)
			}
		}
	}
}

func TestP1RebuildEndsAtAnyLists(t *testing.T) {
	random := rand.New(rand.NewSource(12))
	for range 3000 {
		k, n := random.Intn(6)-1, random.Intn(8)-1
		given := make([]api.Column, random.Intn(7))
		for i := range given {
			given[i] = api.Column{Index: random.Intn(8) - 1, Data: make([]byte, random.Intn(2))}
		}
		got, errno := cairn.Rebuild(k, n, given)
		if errno == api.OK && len(got) != k || errno != api.OK && len(got) != 0 {
			t.Errorf("P1: Rebuild(%d, %d, %v) = %v, %d", k, n, given, got, errno)
		}
	}
}

// roomy gives data with bytes ahead of it and spare room behind it, and the whole.
func roomy(data []byte) (inner []byte, whole []byte) {
	whole = bytes.Repeat([]byte{0xA5}, len(data)+16)
	copy(whole[8:], data)
	return whole[8 : 8+len(data)], whole
}

func TestP2SumLeavesItsBytes(t *testing.T) {
	inner, whole := roomy([]byte("123456789"))
	before := bytes.Clone(whole)
	cairn.Sum(inner)
	if !bytes.Equal(whole, before) {
		t.Errorf("P2: Sum wrote: %v", whole)
	}
}

// scribble writes over a list and its spare room.
func scribble(list []byte, fill byte) {
	list = list[:cap(list)]
	for m := range list {
		list[m] = fill
	}
}

// checkApart fails if two lists share memory, spare room too.
func checkApart(t *testing.T, lists [][]byte) {
	t.Helper()
	for i, list := range lists {
		scribble(list, byte(i+1))
	}
	for i, list := range lists {
		for _, b := range list[:cap(list)] {
			if b != byte(i+1) {
				t.Fatalf("P2: list %d shares memory with another", i)
			}
		}
	}
	for i := range lists[len(lists):cap(lists)] {
		if lists[:cap(lists)][len(lists)+i] != nil {
			t.Fatalf("P2: something stands behind the answer's lists")
		}
	}
}

func TestP2RowsAreNewMemory(t *testing.T) {
	for _, c := range [][2]int{{1, 1}, {2, 4}, {3, 3}, {64, 128}, {128, 128}} {
		rows, _ := cairn.Rows(c[0], c[1])
		checkApart(t, rows)
		again, _ := cairn.Rows(c[0], c[1])
		for i := range again {
			if !bytes.Equal(again[i], wantRow(c[0], i)) {
				t.Fatalf("P2: Rows(%d, %d) hangs on what was done to an earlier answer", c[0], c[1])
			}
		}
	}
}

// roomyItems gives items that have spare room behind the data of each and items behind them, all of these, and the memory of the data.
func roomyItems[T any](items []T, data func(*T) *[]byte, behind T) (inner []T, full []T, wholes [][]byte) {
	full = append([]T(nil), items...)
	for i := range full {
		list := data(&full[i])
		room, whole := roomy(*list)
		*list = room
		wholes = append(wholes, whole)
	}
	full = append(full, behind, behind, behind)
	return full[:len(items)], full, wholes
}

func roomyColumns(columns []api.Column) (inner []api.Column, full []api.Column, wholes [][]byte) {
	return roomyItems(columns, func(c *api.Column) *[]byte { return &c.Data }, column(-77, 7))
}

func TestP2RebuildLeavesItsColumns(t *testing.T) {
	random := rand.New(rand.NewSource(13))
	first := randomColumns(random, 3, 6)
	all := archive(first, 6)
	for _, indexes := range [][]int{{0, 1, 2}, {2, 1, 0}, {5, 4, 3}, {5, 1, 3}, {4, 0, 1, 2, 3, 5}, {0, 0, 1}} {
		var chosen []api.Column
		for _, i := range indexes {
			chosen = append(chosen, all[i])
		}
		given, full, wholes := roomyColumns(chosen)
		cairn.Rebuild(3, 6, given)
		for i, c := range chosen {
			_, want := roomy(c.Data)
			if !bytes.Equal(wholes[i], want) || given[i].Index != c.Index || &given[i].Data[0] != &wholes[i][8] {
				t.Errorf("P2: Rebuild of %v wrote into column %d", indexes, i)
			}
		}
		for _, c := range full[len(given):] {
			if c.Index != -77 || len(c.Data) != 1 || c.Data[0] != 7 {
				t.Errorf("P2: Rebuild of %v wrote behind its columns", indexes)
			}
		}
	}
}

func TestP2RebuildAnswersNewMemory(t *testing.T) {
	random := rand.New(rand.NewSource(14))
	first := randomColumns(random, 3, 6)
	all := archive(first, 6)
	for _, indexes := range [][]int{{0, 1, 2}, {5, 4, 3}, {5, 1, 3}, {2, 4, 0, 1}} {
		var chosen []api.Column
		for _, i := range indexes {
			chosen = append(chosen, all[i])
		}
		given, _, wholes := roomyColumns(chosen)
		answer, errno := cairn.Rebuild(3, 6, given)
		if errno != api.OK || len(answer) != 3 {
			t.Fatalf("P2: Rebuild of %v = %v, %d", indexes, answer, errno)
		}
		for _, whole := range wholes {
			scribble(whole, 0)
		}
		for j := range answer {
			if !bytes.Equal(answer[j], first[j]) {
				t.Errorf("P2: Rebuild of %v: column %d is that of the caller", indexes, j)
			}
		}
		checkApart(t, append(answer, wholes...))
	}
}

// One list handed in as several columns is read only.
func TestP2RebuildOfOneListTwice(t *testing.T) {
	shared := []byte{9, 8, 7}
	answer, errno := cairn.Rebuild(2, 3, []api.Column{{Index: 0, Data: shared}, {Index: 1, Data: shared}})
	if errno != api.OK || len(answer) != 2 {
		t.Fatalf("P2: Rebuild = %v, %d", answer, errno)
	}
	checkApart(t, append(answer, shared))
}

func TestP1EncodeEndsAtAllNumbers(t *testing.T) {
	for _, k := range edges() {
		for _, n := range edges() {
			for _, chunk := range edges() {
				fits := partsFit(k, n) && 1 <= chunk && chunk <= 65536
				shards, errno := cairn.Encode([]api.Blob{blob("a", "xyz")}, api.Params{K: k, N: n, Chunk: chunk})
				if fits && (errno != api.OK || len(shards) != n) || !fits && (errno != api.ErrParams || len(shards) != 0) {
					t.Errorf("P1: Encode(.., {%d, %d, %d}) = %d shards, %d", k, n, chunk, len(shards), errno)
				}
			}
		}
	}
}

func TestP1EncodeEndsAtAnyLists(t *testing.T) {
	random := rand.New(rand.NewSource(15))
	lengths := []int{0, 1, 1, 1, 2, 2, 255, 256}
	for range 3000 {
		n := random.Intn(6) - 1
		p := api.Params{K: random.Intn(6) - 1, N: n, Chunk: random.Intn(5) - 1}
		blobs := make([]api.Blob, random.Intn(5))
		for i := range blobs {
			name := make([]byte, lengths[random.Intn(len(lengths))])
			random.Read(name)
			blobs[i] = api.Blob{Name: string(name), Data: make([]byte, random.Intn(4))}
		}
		shards, errno := cairn.Encode(blobs, p)
		if errno == api.OK && len(shards) != n || errno != api.OK && len(shards) != 0 {
			t.Errorf("P1: Encode(%v, %v) = %d shards, %d", blobs, p, len(shards), errno)
		}
	}
}

func roomyBlobs(blobs []api.Blob) (inner []api.Blob, full []api.Blob, wholes [][]byte) {
	return roomyItems(blobs, func(b *api.Blob) *[]byte { return &b.Data }, blob("behind", "behind"))
}

func TestP2EncodeLeavesItsBlobs(t *testing.T) {
	for _, blobs := range [][]api.Blob{
		{blob("c", "333"), blob("a", "1"), blob("b", "22"), blob("d", "")},
		{blob("b", "333"), blob("a", "1"), blob("b", "22")},
		{blob("b", "333"), blob("", "1"), blob("a", "22")},
		{blob("b", "333"), blob("a", string(make([]byte, 65536)))},
	} {
		for _, p := range []api.Params{{K: 2, N: 4, Chunk: 1}, {K: 1, N: 1, Chunk: 9}, {K: 3, N: 2, Chunk: 1}} {
			given, full, wholes := roomyBlobs(blobs)
			cairn.Encode(given, p)
			for i, b := range blobs {
				_, want := roomy(b.Data)
				if !bytes.Equal(wholes[i], want) || given[i].Name != b.Name || &given[i].Data[:1][0] != &wholes[i][8] {
					t.Errorf("P2: Encode wrote into blob %d of %d", i, len(blobs))
				}
			}
			for _, b := range full[len(given):] {
				if b.Name != "behind" || string(b.Data) != "behind" {
					t.Errorf("P2: Encode wrote behind its blobs")
				}
			}
		}
	}
}

func TestP2EncodeAnswersNewMemory(t *testing.T) {
	blobs := []api.Blob{blob("c", "333"), blob("a", "1"), blob("b", "22"), blob("d", "")}
	for _, p := range []api.Params{{K: 1, N: 1, Chunk: 9}, {K: 1, N: 3, Chunk: 6}, {K: 2, N: 4, Chunk: 1}, {K: 4, N: 4, Chunk: 2}} {
		for _, list := range [][]api.Blob{nil, blobs[:1], blobs} {
			given, _, wholes := roomyBlobs(list)
			shards, errno := cairn.Encode(given, p)
			for _, whole := range wholes {
				scribble(whole, 0)
			}
			checkShards(t, "blobs changed afterwards", shards, errno, wantShards(list, p))
			checkApart(t, append(shards, wholes...))
			checkEncode(t, "shards changed afterwards", list, p)
		}
	}
}

// One list handed in as the data of several blobs is read only.
func TestP2EncodeOfOneListTwice(t *testing.T) {
	shared := []byte("shared data")
	blobs := []api.Blob{{Name: "b", Data: shared[:4]}, {Name: "a", Data: shared}, {Name: "c", Data: shared[2:6]}}
	checkEncode(t, "one list in several blobs", blobs, api.Params{K: 2, N: 4, Chunk: 3})
	if string(shared) != "shared data" {
		t.Errorf("P2: Encode wrote: %q", shared)
	}
}

func TestP1ParseEndsAtAnyBytes(t *testing.T) {
	random := rand.New(rand.NewSource(16))
	for range 20000 {
		b := make([]byte, random.Intn(200))
		random.Read(b)
		if random.Intn(2) == 0 {
			copy(b, "CAIRN1")
		}
		checkLikeWant(t, "any bytes", b)
	}
}

// All is well made but for the numbers, which may be any.
func TestP1ParseEndsAtAnyNumbers(t *testing.T) {
	random := rand.New(rand.NewSource(17))
	numbers := []uint32{0, 1, 2, 3, 4, 11, 18, 127, 128, 255, 256, 1000, 1001, 65535, 65536, 65537, 300000, 300001, 1<<31 - 1, 1 << 31, 1<<32 - 1}
	for range 20000 {
		d := randomDraft(random)
		for range random.Intn(3) {
			d = d.said(10+4*random.Intn(3), numbers[random.Intn(len(numbers))])
		}
		if random.Intn(2) == 0 {
			at := random.Intn(len(d.manifest) - 3)
			binary.LittleEndian.PutUint32(d.manifest[at:], numbers[random.Intn(len(numbers))])
		}
		checkLikeWant(t, "any numbers", d.bytes())
	}
}

func TestP1WriteEndsAtAllNumbers(t *testing.T) {
	for _, k := range edges() {
		for _, n := range edges() {
			for _, index := range edges() {
				for _, size := range edges() {
					s := api.Shard{K: k, N: n, Index: index, Chunk: 1, Names: []string{"a"}, Sizes: []int{size}, Column: []byte{0}}
					want := api.OK
					switch {
					case !partsFit(k, n) || index < 0 || index >= n:
						want = api.ErrParams
					case size < 0:
						want = api.ErrName
					case size > 65536:
						want = api.ErrMany
					case size < 1 || size > k:
						want = api.ErrColumns
					}
					if b, errno := cairn.Write(s); errno != want || (len(b) > 0) != (want == api.OK) {
						t.Errorf("P1: Write(%+v) = %d bytes, %d, want %d", s, len(b), errno, want)
					}
				}
			}
		}
	}
}

func TestP1WriteEndsAtAnyLists(t *testing.T) {
	random := rand.New(rand.NewSource(18))
	for range 20000 {
		s := randomShard(random)
		b, errno := cairn.Write(s)
		if (errno == api.OK) != (len(b) > 0) {
			t.Errorf("P1: Write(%+v) = %d bytes, %d", s, len(b), errno)
		}
	}
}

// scribbleShard writes over a shard's lists and their spare room.
func scribbleShard(s api.Shard, fill byte) {
	scribble(s.Column, fill)
	for i := range s.Names[:cap(s.Names)] {
		s.Names[:cap(s.Names)][i] = "scribbled"
	}
	for i := range s.Sizes[:cap(s.Sizes)] {
		s.Sizes[:cap(s.Sizes)][i] = int(fill)
	}
}

func TestP2ParseLeavesItsBytes(t *testing.T) {
	random := rand.New(rand.NewSource(19))
	for range 300 {
		inner, whole := roomy(spoil(random, randomDraft(random)))
		before := bytes.Clone(whole)
		cairn.Parse(inner)
		if !bytes.Equal(whole, before) {
			t.Fatalf("P2: Parse wrote into its bytes, or beside them")
		}
	}
}

func TestP2ParseAnswersNewMemory(t *testing.T) {
	for _, d := range readerDrafts() {
		inner, whole := roomy(d.bytes())
		got, errno, _ := cairn.Parse(inner)
		want, _, _ := wantParse(d.bytes())
		scribble(whole, 7)
		if errno != api.OK || !sameShard(got, want) {
			t.Errorf("P2: what Parse answered hangs on the caller's bytes: %+v, %d", got, errno)
		}
		scribbleShard(got, 9)
		if !bytes.Equal(whole, bytes.Repeat([]byte{7}, len(whole))) {
			t.Errorf("P2: what Parse answered is the caller's memory")
		}
		again, errno, _ := cairn.Parse(d.bytes())
		if errno != api.OK || !sameShard(again, want) {
			t.Errorf("P2: Parse hangs on what was done to an earlier answer: %+v, %d", again, errno)
		}
	}
}

func TestP2WriteLeavesItsShard(t *testing.T) {
	random := rand.New(rand.NewSource(27))
	for range 300 {
		s := randomShard(random)
		column, whole := roomy(s.Column)
		names := append(append([]string(nil), s.Names...), "behind", "behind")
		sizes := append(append([]int(nil), s.Sizes...), -77, -77)
		given := s
		given.Names, given.Sizes, given.Column = names[:len(s.Names)], sizes[:len(s.Sizes)], column
		cairn.Write(given)
		_, want := roomy(s.Column)
		if !bytes.Equal(whole, want) || !slices.Equal(names, append(slices.Clone(s.Names), "behind", "behind")) || !slices.Equal(sizes, append(slices.Clone(s.Sizes), -77, -77)) {
			t.Fatalf("P2: Write wrote into %+v", s)
		}
	}
}

func TestP2WriteAnswersNewMemory(t *testing.T) {
	for _, d := range readerDrafts() {
		s, _, _ := wantParse(d.bytes())
		column, whole := roomy(s.Column)
		s.Column = column
		got, errno := cairn.Write(s)
		scribble(whole, 7)
		if errno != api.OK || !bytes.Equal(got, d.bytes()) {
			t.Errorf("P2: what Write answered hangs on the caller's column")
		}
		checkApart(t, [][]byte{got, whole})
	}
}

func TestP1DecodeEndsAtAnyBytes(t *testing.T) {
	random := rand.New(rand.NewSource(28))
	for range 3000 {
		given := make([][]byte, random.Intn(6))
		for i := range given {
			given[i] = make([]byte, random.Intn(80))
			random.Read(given[i])
			if random.Intn(2) == 0 {
				copy(given[i], "CAIRN1")
			}
			if random.Intn(3) == 0 {
				given[i] = spoil(random, randomDraft(random))
			}
		}
		checkDecodeLikeWant(t, "any bytes", given)
	}
}

// Whatever the error is, there are no blobs, and the list of errors is there.
func TestP1DecodeTellsNoBlobsBesideAnError(t *testing.T) {
	p := api.Params{K: 2, N: 3, Chunk: 1}
	one, two, other := wantShards([]api.Blob{blob("a", "xyz")}, p), wantShards([]api.Blob{blob("a", "xYz")}, p), wantShards([]api.Blob{blob("b", "xyz")}, p)
	for errno, given := range map[api.Errno][][]byte{
		api.ErrMixed: {one[0], one[1], other[2]}, api.ErrTwice: {one[0], one[1], one[1]}, api.ErrFew: {one[0]}, api.ErrOdd: {one[0], one[1], two[2]},
	} {
		if got, verdicts, e := cairn.Decode(given); e != errno || len(got) != 0 || len(verdicts) != len(given) {
			t.Errorf("P1: %d blobs, %v, %d, want none and %d", len(got), verdicts, e, errno)
		}
	}
}

// roomyShards gives shards that have spare room behind each and shards behind them, all of these, and the memory of the shards.
func roomyShards(shards [][]byte) (inner [][]byte, full [][]byte, wholes [][]byte) {
	return roomyItems(shards, func(b *[]byte) *[]byte { return b }, []byte("behind"))
}

func TestP2DecodeLeavesItsShards(t *testing.T) {
	shards := wantShards([]api.Blob{blob("b", "some data"), blob("a", ""), blob("abc", "more")}, api.Params{K: 2, N: 4, Chunk: 3})
	for _, indexes := range [][]int{{0, 1}, {3, 2}, {2, 0, 3}, {3, 2, 1, 0}, {1}, {2, 2}} {
		list := append(chosen(shards, indexes...), shards[0][:60])
		given, full, wholes := roomyShards(list)
		cairn.Decode(given)
		for i, b := range list {
			_, want := roomy(b)
			if !bytes.Equal(wholes[i], want) || len(given[i]) != len(b) || &given[i][0] != &wholes[i][8] {
				t.Errorf("P2: Decode of %v wrote into shard %d", indexes, i)
			}
		}
		for _, b := range full[len(given):] {
			if string(b) != "behind" {
				t.Errorf("P2: Decode of %v wrote behind its shards", indexes)
			}
		}
	}
}

func TestP2DecodeAnswersNewMemory(t *testing.T) {
	blobs := []api.Blob{blob("a", ""), blob("abc", "more"), blob("b", "some data"), blob("c", ""), blob("d", "7")}
	for _, p := range []api.Params{{K: 1, N: 1, Chunk: 50}, {K: 1, N: 3, Chunk: 2}, {K: 2, N: 4, Chunk: 3}, {K: 4, N: 5, Chunk: 1}} {
		shards := wantShards(blobs, p)
		for _, list := range [][][]byte{shards[:p.K], shards[p.N-p.K:], shards} {
			given, _, wholes := roomyShards(list)
			got, verdicts, errno := cairn.Decode(given)
			for _, whole := range wholes {
				scribble(whole, 0)
			}
			if errno != api.OK || !sameBlobs(got, blobs) {
				t.Fatalf("P2: what Decode answered hangs on the caller's bytes: %v, %d", got, errno)
			}
			for i := range verdicts[:cap(verdicts)] {
				verdicts[:cap(verdicts)][i] = 77
			}
			lists := wholes
			for _, b := range got {
				lists = append(lists, b.Data)
			}
			checkApart(t, lists)
			for _, b := range got[len(got):cap(got)] {
				if b.Name != "" || b.Data != nil {
					t.Fatalf("P2: something stands behind the answer's blobs")
				}
			}
			checkDecoded(t, "behind a changed answer", list, blobs)
		}
	}
}

// One list handed in as several shards is read only.
func TestP2DecodeOfOneListTwice(t *testing.T) {
	shards := wantShards([]api.Blob{blob("a", "xyz")}, api.Params{K: 1, N: 2, Chunk: 2})
	shared := append(bytes.Clone(shards[0]), shards[1]...)
	before := bytes.Clone(shared)
	end := len(shards[0])
	checkDecode(t, "pieces of one list", [][]byte{shared, shared[:end], shared[end:], shared[1:]}, []api.Blob{blob("a", "xyz")}, []api.Errno{api.ErrMore, api.OK, api.OK, api.ErrMagic}, api.OK)
	if !bytes.Equal(shared, before) {
		t.Errorf("P2: Decode wrote into its shards")
	}
}
