package cairn_test

import (
	"bytes"
	"math"
	"math/rand"
	"strconv"
	"strings"
	"testing"

	"cairn/api"
	"cairn/cairn"
)

func checkWrite(t *testing.T, what string, s api.Shard, want []byte) {
	t.Helper()
	got, errno := cairn.Write(s)
	if errno != api.OK || !bytes.Equal(got, want) {
		t.Fatalf("P8: %s: %d bytes, %d, want %d and OK; they differ from byte %d on", what, len(got), errno, len(want), firstOther(got, want))
	}
}

func checkUnwritten(t *testing.T, what string, s api.Shard, want api.Errno) {
	t.Helper()
	if got, errno := cairn.Write(s); errno != want || len(got) != 0 {
		t.Errorf("P8: %s: %d bytes, %d, want none and %d", what, len(got), errno, want)
	}
}

// exampleShard is shard 1 of the document's example.
func exampleShard() api.Shard {
	return api.Shard{K: 2, N: 3, Index: 1, Chunk: 1, Names: []string{"a"}, Sizes: []int{3}, Column: []byte{'z', 0}}
}

func TestP8Example(t *testing.T) {
	checkWrite(t, "the document's example", exampleShard(), example().bytes())
}

func TestP8NoBlobs(t *testing.T) {
	for _, s := range []api.Shard{{}, {Names: []string{}, Sizes: []int{}, Column: []byte{}}} {
		s.K, s.N, s.Index, s.Chunk = 3, 128, 127, 65536
		checkWrite(t, "no blobs", s, drafted(nil, api.Params{K: 3, N: 128, Chunk: 65536}, 127).bytes())
		s.K, s.N, s.Index, s.Chunk = 1, 1, 0, 1
		checkWrite(t, "no blobs in one part", s, drafted(nil, api.Params{K: 1, N: 1, Chunk: 1}, 0).bytes())
	}
}

// checkWriteBack writes each shard of an archive by what the document's words make of it.
func checkWriteBack(t *testing.T, what string, blobs []api.Blob, p api.Params) {
	t.Helper()
	for _, want := range wantShards(blobs, p) {
		s, errno, _ := wantParse(want)
		if errno != api.OK {
			t.Fatalf("%s: %d", what, errno)
		}
		checkWrite(t, what, s, want)
	}
}

func TestP8ShardsOfArchives(t *testing.T) {
	anyArchives(func(what string, blobs []api.Blob, p api.Params) { checkWriteBack(t, what, blobs, p) })
}

// A shard of an index that is not below K may have any bytes, as long as they are so many.
func TestP8AnyColumnsFromKOn(t *testing.T) {
	random := rand.New(rand.NewSource(41))
	for range 200 {
		size := random.Intn(40)
		s := api.Shard{K: 1 + random.Intn(9), N: 10, Index: 9, Chunk: 1 + random.Intn(9), Names: []string{"a"}, Sizes: []int{size}}
		s.Column = make([]byte, (size+s.K-1)/s.K)
		random.Read(s.Column)
		b, errno := cairn.Write(s)
		got, parsed, _ := wantParse(b)
		if errno != api.OK || parsed != api.OK || !sameShard(got, s) {
			t.Fatalf("P8: Write(%+v) = %d; it reads as %+v, %d", s, errno, got, parsed)
		}
	}
}

func TestP8ParseOfWriteIsTheShard(t *testing.T) {
	random := rand.New(rand.NewSource(42))
	taken := 0
	for range 5000 {
		s := randomShard(random)
		b, errno := cairn.Write(s)
		if errno != api.OK {
			continue
		}
		taken++
		if got, errno, place := cairn.Parse(b); errno != api.OK || place != 0 || !sameShard(got, s) {
			t.Fatalf("P8: Parse of Write(%+v) = %+v, %d at %d", s, got, errno, place)
		}
	}
	if taken < 500 {
		t.Errorf("only %d shards were written", taken)
	}
}

// randomShard is a shard that may be, or is off by a little.
func randomShard(random *rand.Rand) api.Shard {
	n := 1 + random.Intn(5)
	s := api.Shard{K: 1 + random.Intn(n), N: n, Index: random.Intn(n), Chunk: 1 + random.Intn(5)}
	total := 0
	for i := range random.Intn(4) {
		size := random.Intn(6)
		s.Names, s.Sizes = append(s.Names, strconv.Itoa(i)+strings.Repeat("x", random.Intn(3))), append(s.Sizes, size)
		total += size
	}
	s.Column = make([]byte, (total+s.K-1)/s.K)
	for m := range s.Column {
		if s.Index >= s.K || s.Index*len(s.Column)+m < total {
			s.Column[m] = byte(random.Intn(256))
		}
	}
	switch random.Intn(12) {
	case 0:
		s.K = random.Intn(9) - 2
	case 1:
		s.Index = random.Intn(9) - 2
	case 2:
		s.Chunk = random.Intn(3) - 1
	case 3:
		s.Sizes = append(s.Sizes, random.Intn(4)-2)
		s.Names = append(s.Names, strconv.Itoa(random.Intn(5)))
	case 4:
		s.Column = append(s.Column, 0)
	case 5:
		for m := range s.Column {
			s.Column[m] = byte(random.Intn(2))
		}
	case 6:
		s.Names = append(s.Names, "z")
	}
	return s
}

// What Parse takes Write writes again, byte by byte.
func TestP8WriteOfParseIsTheBytes(t *testing.T) {
	random := rand.New(rand.NewSource(43))
	taken := 0
	for range 20000 {
		b := spoil(random, randomDraft(random))
		if s, errno, _ := cairn.Parse(b); errno == api.OK {
			taken++
			checkWrite(t, "what Parse took", s, b)
		}
	}
	if taken < 1000 {
		t.Errorf("only %d shards were taken", taken)
	}
}

func TestP8WrongParams(t *testing.T) {
	for _, p := range wrongParams() {
		s := exampleShard()
		s.K, s.N, s.Chunk = p.K, p.N, p.Chunk
		checkUnwritten(t, "K "+strconv.Itoa(p.K)+", N "+strconv.Itoa(p.N)+", Chunk "+strconv.Itoa(p.Chunk), s, api.ErrParams)
	}
	for _, index := range []int{-1, 3, 4, 128, 129, 256, 257, -255, math.MinInt, math.MaxInt} {
		s := exampleShard()
		s.Index = index
		checkUnwritten(t, "Index "+strconv.Itoa(index), s, api.ErrParams)
	}
	checkUnwritten(t, "nothing at all", api.Shard{}, api.ErrParams)
}

func TestP8IndexesThatMayBe(t *testing.T) {
	for index := range 128 {
		s := api.Shard{K: 1, N: 128, Index: index, Chunk: 3, Names: []string{"a"}, Sizes: []int{2}, Column: []byte{5, 6}}
		d := draft{head: wantHead(api.Params{K: 1, N: 128, Chunk: 3}, index, 11, 2)[:24], manifest: written(1, entry("a", 2)), frames: [][]byte{{5, 6}}, tail: "DONE"}
		checkWrite(t, "Index "+strconv.Itoa(index), s, d.bytes())
	}
}

func TestP8WrongNames(t *testing.T) {
	long := strings.Repeat("x", 255)
	for _, c := range []struct {
		what  string
		names []string
		sizes []int
	}{
		{"no names", nil, []int{3}}, {"no sizes", []string{"a"}, nil}, {"a name more", []string{"a", "b"}, []int{3}}, {"a size more", []string{"a"}, []int{3, 0}},
		{"an empty name", []string{""}, []int{3}}, {"an empty name ahead", []string{"", "a"}, []int{0, 3}}, {"an empty name behind", []string{"a", ""}, []int{3, 0}},
		{"a name of 256", []string{long + "x"}, []int{3}}, {"a second name of 256", []string{"a", long + "x"}, []int{3, 0}}, {"a name of 65537", []string{strings.Repeat("x", 65537)}, []int{3}},
		{"a size of -1", []string{"a"}, []int{-1}}, {"a second size of -1", []string{"a", "b"}, []int{4, -1}}, {"the least size", []string{"a"}, []int{math.MinInt}},
		{"sizes that are 3 together", []string{"a", "b", "c"}, []int{5, -3, 1}}, {"sizes that run over to 3", []string{"a", "b"}, []int{math.MinInt, math.MinInt + 3}},
		{"a name twice", []string{"a", "a"}, []int{3, 0}}, {"the wrong way round", []string{"b", "a"}, []int{3, 0}}, {"the longer one ahead", []string{"ab", "a"}, []int{3, 0}},
		{"high bytes ahead of low ones", []string{"\x80", "\x7f"}, []int{3, 0}}, {"a third that is the first", []string{"a", "b", "a"}, []int{3, 0, 0}}, {"the last two", []string{"a", "c", "b"}, []int{3, 0, 0}},
	} {
		s := exampleShard()
		s.Names, s.Sizes = c.names, c.sizes
		checkUnwritten(t, c.what, s, api.ErrName)
	}
}

func TestP8NamesThatMayBe(t *testing.T) {
	long := strings.Repeat("x", 255)
	for _, names := range [][]string{{"a"}, {long}, {"\x00"}, {"a", "b"}, {"a", "ab"}, {"\x7f", "\x80"}, {"B", "a"}, {"a", "a\x00", long}} {
		sizes := make([]int, len(names))
		sizes[0] = 3
		var entries []string
		for i, name := range names {
			entries = append(entries, entry(name, sizes[i]))
		}
		s := exampleShard()
		s.Names, s.Sizes = names, sizes
		checkWrite(t, strings.Join(names, ", "), s, example().listing(written(len(names), entries...)).bytes())
	}
}

func TestP8TooMany(t *testing.T) {
	for _, sizes := range [][]int{
		{65537}, {65536, 1}, {1, 65536}, {0, 65537}, {65535, 1, 1}, {1 << 20}, {1 << 32}, {1<<32 + 3}, {math.MaxInt}, {math.MaxInt, math.MaxInt}, {math.MaxInt, 1}, {math.MaxInt, math.MaxInt, 5}, {1, math.MaxInt}, {1 << 62, 1 << 62, 1 << 62, 1 << 62},
	} {
		s := exampleShard()
		s.Names, s.Sizes = []string{"a", "b", "c", "d"}[:len(sizes)], sizes
		checkUnwritten(t, "sizes too great", s, api.ErrMany)
	}
	for _, count := range []int{1001, 1002, 5000} {
		s := api.Shard{K: 2, N: 3, Index: 1, Chunk: 1, Sizes: make([]int, count)}
		for i := range count {
			s.Names = append(s.Names, strconv.Itoa(10000+i))
		}
		checkUnwritten(t, strconv.Itoa(count)+" blobs", s, api.ErrMany)
	}
}

func TestP8GreatestContent(t *testing.T) {
	s := api.Shard{K: 1, N: 1, Chunk: 65536, Names: []string{"a", "b"}, Sizes: []int{65535, 1}, Column: make([]byte, 65536)}
	if b, errno := cairn.Write(s); errno != api.OK || len(b) != 32+18+8+65536+8+4 {
		t.Errorf("P8: 65536 bytes: %d, %d", len(b), errno)
	}
	s = api.Shard{K: 2, N: 3, Index: 1, Chunk: 1, Sizes: make([]int, 1000)}
	for i := range 1000 {
		s.Names = append(s.Names, strconv.Itoa(10000+i))
	}
	if b, errno := cairn.Write(s); errno != api.OK || len(b) != 32+4+1000*11+8+4 {
		t.Errorf("P8: 1000 blobs: %d, %d", len(b), errno)
	}
}

func TestP8WrongColumns(t *testing.T) {
	for k := 1; k <= 5; k++ {
		for total := range 12 {
			for index := range 6 {
				right := (total + k - 1) / k
				for length := range 14 {
					s := api.Shard{K: k, N: 6, Index: index, Chunk: 4, Names: []string{"a", "b"}, Sizes: []int{total - total/2, total / 2}, Column: make([]byte, length)}
					what := "K " + strconv.Itoa(k) + ", " + strconv.Itoa(total) + " bytes, a column of " + strconv.Itoa(length)
					if length != right {
						checkUnwritten(t, what, s, api.ErrColumns)
					} else if b, errno := cairn.Write(s); errno != api.OK || len(b) == 0 {
						t.Errorf("P8: %s: %d bytes, %d", what, len(b), errno)
					}
				}
			}
		}
	}
}

func TestP8WhatFillsUp(t *testing.T) {
	for k := 1; k <= 6; k++ {
		for total := 1; total <= 13; total++ {
			length := (total + k - 1) / k
			for index := range 7 {
				for m := range length {
					s := api.Shard{K: k, N: 7, Index: index, Chunk: 2, Names: []string{"a"}, Sizes: []int{total}, Column: make([]byte, length)}
					s.Column[m] = 128
					want := api.OK
					if index < k && index*length+m >= total {
						want = api.ErrPad
					}
					if b, errno := cairn.Write(s); errno != want || (len(b) == 0) != (want != api.OK) {
						t.Errorf("P8: K %d, %d bytes, column %d, byte %d: %d bytes, %d, want %d", k, total, index, m, len(b), errno, want)
					}
				}
			}
		}
	}
}

func TestP8ErrorNamedFirst(t *testing.T) {
	spoil := []struct {
		errno api.Errno
		by    []func(*api.Shard)
	}{
		{api.ErrParams, []func(*api.Shard){
			func(s *api.Shard) { s.K = 0 }, func(s *api.Shard) { s.N = 129 }, func(s *api.Shard) { s.Index = -1 }, func(s *api.Shard) { s.Index = s.N }, func(s *api.Shard) { s.Chunk = 65537 },
		}},
		{api.ErrName, []func(*api.Shard){
			func(s *api.Shard) { s.Names = append([]string{""}, s.Names[1:]...) }, func(s *api.Shard) { s.Names = append(s.Names, "z") }, func(s *api.Shard) { s.Sizes = append(s.Sizes, 0) },
			func(s *api.Shard) { s.Names, s.Sizes = append(s.Names, "z"), append(s.Sizes, -1) }, func(s *api.Shard) { s.Names, s.Sizes = append(s.Names, "!"), append(s.Sizes, 0) },
		}},
		{api.ErrMany, []func(*api.Shard){
			func(s *api.Shard) { s.Sizes = append([]int{65537}, s.Sizes[1:]...) },
			func(s *api.Shard) {
				for i := range 1001 {
					s.Names, s.Sizes = append(s.Names, "b"+strconv.Itoa(10000+i)), append(s.Sizes, 0)
				}
			},
		}},
		{api.ErrColumns, []func(*api.Shard){func(s *api.Shard) { s.Column = append(s.Column, 1) }, func(s *api.Shard) { s.Column = nil }}},
		{api.ErrPad, []func(*api.Shard){func(s *api.Shard) { s.Column = append([]byte(nil), 'z', 1) }}},
	}
	for i, first := range spoil {
		for _, byFirst := range first.by {
			s := exampleShard()
			byFirst(&s)
			checkUnwritten(t, "one fault", s, first.errno)
			for _, second := range spoil[i+1:] {
				for _, bySecond := range second.by {
					s := exampleShard()
					bySecond(&s)
					byFirst(&s)
					checkUnwritten(t, "two faults", s, first.errno)
				}
			}
		}
	}
}
