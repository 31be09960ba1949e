package cairn_test

import (
	"bytes"
	"math/rand"
	"strconv"
	"testing"

	"cairn/api"
	"cairn/cairn"
)

// Each choice of K and more shards, in each order, gives the blobs; each choice of fewer is refused.
func TestP11AnyShardsInAnyOrder(t *testing.T) {
	for n := 1; n <= 5; n++ {
		for k := 1; k <= n; k++ {
			shards := wantShards(fourBlobs(), api.Params{K: k, N: n, Chunk: 2})
			for count := range n + 1 {
				arrangements(count, n, nil, func(indexes []int) {
					if count < k {
						checkUndecoded(t, "too few", chosen(shards, indexes...), api.ErrFew)
					} else {
						checkDecoded(t, "enough", chosen(shards, indexes...), sortedByName(fourBlobs()))
					}
				})
			}
		}
	}
}

func TestP11AnyArchives(t *testing.T) {
	random := rand.New(rand.NewSource(70))
	anyArchives(func(what string, blobs []api.Blob, p api.Params) {
		shards, errno := cairn.Encode(blobs, p)
		if errno != api.OK {
			t.Fatalf("P6: %s: %d", what, errno)
		}
		for _, count := range []int{p.K, p.K + random.Intn(p.N-p.K+1), p.N} {
			checkDecoded(t, what, chosen(shards, random.Perm(p.N)[:count]...), sortedByName(blobs))
		}
		checkUndecoded(t, what+", too few", chosen(shards, random.Perm(p.N)[:p.K-1]...), api.ErrFew)
	})
}

func TestP11GreatestNumbers(t *testing.T) {
	random := rand.New(rand.NewSource(71))
	data := make([]byte, 65536)
	random.Read(data)
	blobs := []api.Blob{{Name: "a", Data: data[:30001]}, {Name: "b", Data: data[30001:]}}
	for _, p := range []api.Params{{K: 1, N: 128, Chunk: 65536}, {K: 2, N: 128, Chunk: 1000}, {K: 63, N: 128, Chunk: 77}, {K: 64, N: 128, Chunk: 1024}, {K: 127, N: 128, Chunk: 1}, {K: 128, N: 128, Chunk: 512}} {
		shards, errno := cairn.Encode(blobs, p)
		if errno != api.OK {
			t.Fatalf("P6: %d", errno)
		}
		what := "K " + strconv.Itoa(p.K)
		checkDecoded(t, what+", all", shards, blobs)
		checkDecoded(t, what+", the first K", shards[:p.K], blobs)
		checkDecoded(t, what+", the last K", shards[p.N-p.K:], blobs)
		checkDecoded(t, what+", any K", chosen(shards, random.Perm(p.N)[:p.K]...), blobs)
		checkUndecoded(t, what+", one fewer", chosen(shards, random.Perm(p.N)[:p.K-1]...), api.ErrFew)
	}
}

// stretched gives a shard with the bits changed that a pattern has, from one bit on. Those behind its end fall away.
func stretched(shard []byte, from int, pattern uint64) []byte {
	changed := bytes.Clone(shard)
	for i := 0; i < 64 && from+i < 8*len(shard); i++ {
		if pattern>>i&1 == 1 {
			changed[(from+i)/8] ^= 1 << ((from + i) % 8)
		}
	}
	return changed
}

// checkSpoilt decodes shards of which those at the places of places are changed, and the others are whole.
func checkSpoilt(t *testing.T, what string, shards [][]byte, places map[int]bool, k int, blobs []api.Blob) {
	t.Helper()
	got, verdicts, errno := cairn.Decode(shards)
	if len(verdicts) != len(shards) {
		t.Fatalf("P11: %s: %d errors of %d shards", what, len(verdicts), len(shards))
	}
	for i := range shards {
		if places[i] != (verdicts[i] != api.OK) {
			t.Fatalf("P11: %s: shard %d, changed: %v, is %d", what, i, places[i], verdicts[i])
		}
	}
	if len(shards)-len(places) < k {
		if errno != api.ErrFew || len(got) != 0 {
			t.Fatalf("P11: %s: %d blobs, %d, want none and ErrFew", what, len(got), errno)
		}
	} else if errno != api.OK || !sameBlobs(got, blobs) {
		t.Fatalf("P11: %s: %d blobs, %d, want %d and OK", what, len(got), errno, len(blobs))
	}
}

// A stretch begins at each bit of a shard: so it is in the head, in the manifest, in each frame, in the tail, and across each two of them.
func TestP11AStretchAnywhere(t *testing.T) {
	random := rand.New(rand.NewSource(72))
	blobs := []api.Blob{blob("a", "one"), blob("b", "the second")}
	for _, p := range []api.Params{{K: 2, N: 3, Chunk: 1}, {K: 2, N: 3, Chunk: 4}, {K: 3, N: 3, Chunk: 65536}, {K: 1, N: 2, Chunk: 10}} {
		for _, content := range [][]api.Blob{blobs, nil} {
			shards := wantShards(content, p)
			for index := range p.N {
				for from := range 8 * len(shards[index]) {
					for _, pattern := range []uint64{1, 1<<63 | 1, 1<<64 - 1, random.Uint64() | 1, 0xFF, random.Uint64()&random.Uint64() | 1} {
						given := append([][]byte(nil), shards...)
						given[index] = stretched(shards[index], from, pattern)
						checkSpoilt(t, "shard "+strconv.Itoa(index)+" from bit "+strconv.Itoa(from), given, map[int]bool{index: true}, p.K, content)
					}
				}
			}
		}
	}
}

// Within 64 bits a shard becomes as another, which is whole as well: what of that one fits there, with its sum as far as it goes, is refused.
func TestP11AStretchOfAnotherShard(t *testing.T) {
	p := api.Params{K: 2, N: 3, Chunk: 1}
	base := wantShards([]api.Blob{blob("a", "wxyz")}, p)
	for _, other := range [][][]byte{
		wantShards([]api.Blob{blob("a", "wXyz")}, p),
		wantShards([]api.Blob{blob("b", "wxyz")}, p),
		wantShards([]api.Blob{blob("a", "wxyz")}, api.Params{K: 2, N: 4, Chunk: 1}),
		{base[1], base[2], base[0]},
	} {
		for index := range p.N {
			for from := range 8 * len(base[index]) {
				pattern := uint64(0)
				for i := 0; i < 64 && from+i < 8*len(base[index]); i++ {
					at := from + i
					pattern |= uint64((base[index][at/8]^other[index][at/8])>>(at%8)&1) << i
				}
				if pattern != 0 {
					given := append([][]byte(nil), base...)
					given[index] = stretched(base[index], from, pattern)
					checkSpoilt(t, "another's bits from "+strconv.Itoa(from), given, map[int]bool{index: true}, p.K, []api.Blob{blob("a", "wxyz")})
				}
			}
		}
	}
}

// Of some shards, from none to all of them, each is changed within a stretch of its own.
func TestP11StretchesInSomeShards(t *testing.T) {
	random := rand.New(rand.NewSource(73))
	for range 1500 {
		n := 1 + random.Intn(9)
		p := api.Params{K: 1 + random.Intn(n), N: n, Chunk: 1 + random.Intn(20)}
		blobs := randomBlobs(random, random.Intn(4), 30)
		given := chosen(wantShards(blobs, p), random.Perm(n)[:random.Intn(n+1)]...)
		places := make(map[int]bool)
		for _, i := range random.Perm(len(given))[:random.Intn(len(given)+1)] {
			given[i] = stretched(given[i], random.Intn(8*len(given[i])), random.Uint64()>>random.Intn(64)|1)
			places[i] = true
		}
		checkSpoilt(t, "some shards changed", given, places, p.K, sortedByName(blobs))
	}
}

// Of the greatest archives as many shards are changed as may be, and then one more.
func TestP11AsManyChangedAsMayBe(t *testing.T) {
	random := rand.New(rand.NewSource(74))
	blobs := randomBlobs(random, 20, 200)
	for _, p := range []api.Params{{K: 1, N: 128, Chunk: 500}, {K: 64, N: 128, Chunk: 9}, {K: 127, N: 128, Chunk: 1}, {K: 128, N: 128, Chunk: 65536}, {K: 1, N: 1, Chunk: 1}, {K: 3, N: 4, Chunk: 30}} {
		given, errno := cairn.Encode(blobs, p)
		if errno != api.OK {
			t.Fatalf("P6: %d", errno)
		}
		places := make(map[int]bool)
		for _, i := range random.Perm(p.N)[:p.N-p.K+1] {
			checkSpoilt(t, "as many as may be, or fewer", given, places, p.K, sortedByName(blobs))
			given[i] = stretched(given[i], random.Intn(8*len(given[i])), random.Uint64()|1)
			places[i] = true
		}
		checkSpoilt(t, "one more than may be", given, places, p.K, sortedByName(blobs))
	}
}

// Shards with any columns: where Decode tells blobs, Encode makes each of the shards of them, byte by byte.
func TestP11EncodeOfTheBlobsIsTheShards(t *testing.T) {
	random := rand.New(rand.NewSource(75))
	seen := make(map[api.Errno]int)
	for range 20000 {
		n := 1 + random.Intn(6)
		p := api.Params{K: 1 + random.Intn(n), N: n, Chunk: 1 + random.Intn(4)}
		total := random.Intn(3 * p.K)
		length := (total + p.K - 1) / p.K
		var given [][]byte
		var indexes []int
		for _, i := range random.Perm(n)[:p.K+random.Intn(n-p.K+1)] {
			s := api.Shard{K: p.K, N: n, Index: i, Chunk: p.Chunk, Names: []string{"a", "b"}, Sizes: []int{total / 3, total - total/3}, Column: make([]byte, length)}
			for m := range s.Column {
				if i >= p.K || i*length+m < total {
					s.Column[m] = byte(random.Intn(2))
				}
			}
			b, errno := cairn.Write(s)
			if errno != api.OK {
				t.Fatalf("P8: Write(%+v) = %d", s, errno)
			}
			given, indexes = append(given, b), append(indexes, i)
		}
		seen[checkDecodeLikeWant(t, "any columns", given)]++
		blobs, _, errno := cairn.Decode(given)
		if errno != api.OK {
			continue
		}
		again, errno := cairn.Encode(blobs, p)
		if errno != api.OK || len(again) != n {
			t.Fatalf("P11: Encode of what Decode told: %d shards, %d", len(again), errno)
		}
		for j, i := range indexes {
			if !bytes.Equal(given[j], again[i]) {
				t.Fatalf("P11: shard %d is not that of the blobs that Decode told", i)
			}
		}
	}
	if seen[api.OK] < 1000 || seen[api.ErrOdd] < 1000 {
		t.Errorf("only %v", seen)
	}
}
