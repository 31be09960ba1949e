package cairn_test

import (
	"bytes"
	"math/rand"
	"reflect"
	"slices"
	"strconv"
	"strings"
	"testing"

	"cairn/api"
	"cairn/cairn"
)

func paramsOf(s api.Shard) api.Params { return api.Params{K: s.K, N: s.N, Chunk: s.Chunk} }

// solved gives the columns 0 to k - 1 by k shards, of any indexes: each is a sum with k unknown columns, and these are taken out one by one.
func solved(shards []api.Shard) [][]byte {
	k := len(shards)
	sums := make([][]byte, k)
	for t, s := range shards {
		sums[t] = append(wantRow(k, s.Index), s.Column...)
	}
	for j := range k {
		at := j
		for sums[at][j] == 0 {
			at++
		}
		sums[j], sums[at] = sums[at], sums[j]
		factor := inverseBySearch(sums[j][j])
		for m := range sums[j] {
			sums[j][m] = multiply(sums[j][m], factor)
		}
		for t := range sums {
			if factor := sums[t][j]; t != j && factor != 0 {
				for m := range sums[t] {
					sums[t][m] ^= multiply(factor, sums[j][m])
				}
			}
		}
	}
	first := make([][]byte, k)
	for j := range first {
		first[j] = sums[j][k:]
	}
	return first
}

// wantDecode is Decode by the document's words.
func wantDecode(texts [][]byte) ([]api.Blob, []api.Errno, api.Errno) {
	var verdicts []api.Errno
	var taken []api.Shard
	var whole [][]byte
	for _, b := range texts {
		s, errno, _ := wantParse(b)
		verdicts = append(verdicts, errno)
		if errno == api.OK {
			taken, whole = append(taken, s), append(whole, b)
		}
	}
	for _, a := range taken {
		for _, b := range taken {
			if paramsOf(a) != paramsOf(b) || !slices.Equal(a.Names, b.Names) || !slices.Equal(a.Sizes, b.Sizes) {
				return nil, verdicts, api.ErrMixed
			}
		}
	}
	for i := range taken {
		for j := range i {
			if taken[i].Index == taken[j].Index {
				return nil, verdicts, api.ErrTwice
			}
		}
	}
	if len(taken) == 0 || len(taken) < taken[0].K {
		return nil, verdicts, api.ErrFew
	}
	k := taken[0].K
	blobs := wantCut(taken[0].Names, taken[0].Sizes, bytes.Join(solved(taken[len(taken)-k:]), nil))
	again := wantShards(blobs, paramsOf(taken[0]))
	for i, s := range taken {
		if !bytes.Equal(whole[i], again[s.Index]) {
			return nil, verdicts, api.ErrOdd
		}
	}
	return blobs, verdicts, api.OK
}

func wantCut(names []string, sizes []int, data []byte) []api.Blob {
	var blobs []api.Blob
	at := 0
	for i, name := range names {
		blobs = append(blobs, api.Blob{Name: name, Data: data[at : at+sizes[i]]})
		at += sizes[i]
	}
	return blobs
}

func sameBlobs(a []api.Blob, b []api.Blob) bool {
	return slices.EqualFunc(a, b, func(a api.Blob, b api.Blob) bool { return a.Name == b.Name && bytes.Equal(a.Data, b.Data) })
}

// checkDecode holds all that Decode tells of shards against what it should tell.
func checkDecode(t *testing.T, what string, shards [][]byte, want []api.Blob, wantVerdicts []api.Errno, wantErrno api.Errno) {
	t.Helper()
	got, verdicts, errno := cairn.Decode(shards)
	if errno != wantErrno {
		t.Fatalf("P10: %s: %d, want %d", what, errno, wantErrno)
	}
	if !slices.Equal(verdicts, wantVerdicts) {
		t.Fatalf("P10: %s: the errors are %v, want %v", what, verdicts, wantVerdicts)
	}
	if !sameBlobs(got, want) {
		t.Fatalf("P10: %s: %d blobs, want %d and the same", what, len(got), len(want))
	}
}

// checkDecoded decodes shards that are all whole.
func checkDecoded(t *testing.T, what string, shards [][]byte, want []api.Blob) {
	t.Helper()
	checkDecode(t, what, shards, want, make([]api.Errno, len(shards)), api.OK)
}

// checkUndecoded decodes shards that are all whole, and are of no blobs.
func checkUndecoded(t *testing.T, what string, shards [][]byte, want api.Errno) {
	t.Helper()
	checkDecode(t, what, shards, nil, make([]api.Errno, len(shards)), want)
}

// checkDecodeLikeWant holds Decode against the document's words, and tells what they ask for.
func checkDecodeLikeWant(t *testing.T, what string, shards [][]byte) api.Errno {
	t.Helper()
	blobs, verdicts, errno := wantDecode(shards)
	checkDecode(t, what, shards, blobs, verdicts, errno)
	return errno
}

func chosen[T any](all []T, indexes ...int) []T {
	var list []T
	for _, i := range indexes {
		list = append(list, all[i])
	}
	return list
}

// fourBlobs are blobs in no order, one of them empty.
func fourBlobs() []api.Blob {
	return []api.Blob{blob("b", "the second"), blob("a", "one"), blob("c", ""), blob("bb", "x")}
}

func TestP10Examples(t *testing.T) {
	checkUndecoded(t, "nothing", nil, api.ErrFew)
	for _, blobs := range [][]api.Blob{nil, {blob("a", "xyz")}, fourBlobs()} {
		p := api.Params{K: 2, N: 4, Chunk: 3}
		shards := wantShards(blobs, p)
		for _, s := range shards {
			checkUndecoded(t, "one shard twice", [][]byte{s, s}, api.ErrTwice)
		}
		other := wantShards([]api.Blob{blob("another", "archive")}, p)
		checkUndecoded(t, "shards of two archives", [][]byte{shards[0], other[1]}, api.ErrMixed)
		spoilt := bytes.Clone(shards[2])
		spoilt[40] ^= 4
		arrangements(2, 4, nil, func(indexes []int) {
			given := chosen(shards, indexes...)
			checkDecoded(t, "any two", given, sortedByName(blobs))
			given = [][]byte{spoilt, given[0], nil, spoilt, given[1], []byte("CAIRX")}
			want := []api.Errno{api.ErrSum, api.OK, api.ErrShort, api.ErrSum, api.OK, api.ErrMagic}
			checkDecode(t, "any two, spoilt ones beside them", given, sortedByName(blobs), want, api.OK)
		})
	}
}

func TestP10NoShards(t *testing.T) {
	checkUndecoded(t, "nil", nil, api.ErrFew)
	checkUndecoded(t, "no shards", [][]byte{}, api.ErrFew)
	short := []api.Errno{api.ErrShort, api.ErrShort, api.ErrShort}
	checkDecode(t, "shards of no bytes", [][]byte{nil, {}, nil}, nil, short, api.ErrFew)
	shards := wantShards([]api.Blob{blob("a", "xyz")}, api.Params{K: 1, N: 3, Chunk: 2})
	for i, s := range shards {
		shards[i] = s[:len(s)-1-i]
	}
	checkDecode(t, "none whole, one would do", shards, nil, short, api.ErrFew)
}

// Shards of no blobs tell so, but K of them must be there all the same.
func TestP10NoBlobs(t *testing.T) {
	for _, p := range []api.Params{{K: 1, N: 1, Chunk: 1}, {K: 1, N: 3, Chunk: 9}, {K: 2, N: 4, Chunk: 1}, {K: 5, N: 5, Chunk: 65536}, {K: 128, N: 128, Chunk: 1}, {K: 100, N: 128, Chunk: 2}} {
		for _, blobs := range [][]api.Blob{nil, {blob("a", "")}, {blob("b", ""), blob("a", ""), blob("ab", "")}} {
			shards := wantShards(blobs, p)
			what := strconv.Itoa(len(blobs)) + " blobs and no bytes"
			checkDecoded(t, what, shards, sortedByName(blobs))
			checkDecoded(t, what+", the first K", shards[:p.K], sortedByName(blobs))
			checkDecoded(t, what+", the last K", shards[p.N-p.K:], sortedByName(blobs))
			checkUndecoded(t, what+", one fewer", shards[p.N-p.K+1:], api.ErrFew)
		}
	}
}

// spoiltShards are bytes that are no shards, of each kind, and the error of each.
func spoiltShards() ([][]byte, []api.Errno) {
	d := example()
	pad := example()
	pad.frames = [][]byte{{'z'}, {1}}
	b := d.bytes()
	sum := bytes.Clone(b)
	sum[len(b)-5] ^= 1
	tail := bytes.Clone(b)
	tail[len(b)-1] = 'X'
	return [][]byte{b[:72], tail, sum, d.with(8, 3).bytes(), d.listing(written(2, entry("a", 3))).bytes(), pad.bytes(), append(b[:73:73], 0), []byte("x"), nil},
		[]api.Errno{api.ErrShort, api.ErrMagic, api.ErrSum, api.ErrParams, api.ErrManifest, api.ErrPad, api.ErrMore, api.ErrMagic, api.ErrShort}
}

// The list of errors has Parse's for each, in their order, whatever Decode tells beside it.
func TestP10ListOfErrors(t *testing.T) {
	spoilt, errors := spoiltShards()
	p := api.Params{K: 2, N: 3, Chunk: 1}
	xyz := wantShards([]api.Blob{blob("a", "xyz")}, p)
	zyx := wantShards([]api.Blob{blob("a", "zyx")}, p)
	other := wantShards([]api.Blob{blob("b", "xyz")}, p)
	random := rand.New(rand.NewSource(60))
	for _, c := range []struct {
		errno  api.Errno
		shards [][]byte
	}{
		{api.OK, xyz}, {api.OK, xyz[1:]}, {api.ErrFew, xyz[1:2]}, {api.ErrFew, nil}, {api.ErrTwice, chosen(xyz, 0, 1, 0)}, {api.ErrMixed, [][]byte{xyz[0], other[1]}}, {api.ErrOdd, [][]byte{xyz[0], xyz[1], zyx[2]}},
	} {
		var want []api.Blob
		if c.errno == api.OK {
			want = []api.Blob{blob("a", "xyz")}
		}
		shards := append(append([][]byte(nil), c.shards...), spoilt...)
		verdicts := append(make([]api.Errno, len(c.shards)), errors...)
		for range 20 {
			checkDecode(t, "spoilt ones of each kind beside them", shards, want, verdicts, c.errno)
			random.Shuffle(len(shards), func(i, j int) {
				shards[i], shards[j] = shards[j], shards[i]
				verdicts[i], verdicts[j] = verdicts[j], verdicts[i]
			})
		}
		for i := range spoilt {
			shards := append([][]byte{spoilt[i]}, c.shards...)
			checkDecode(t, "a spoilt one ahead", shards, want, append([]api.Errno{errors[i]}, make([]api.Errno, len(c.shards))...), c.errno)
		}
	}
}

func TestP10Mixed(t *testing.T) {
	base := []api.Blob{blob("ab", "1"), blob("c", "22")}
	p := api.Params{K: 2, N: 4, Chunk: 3}
	for _, c := range []struct {
		what        string
		blobs, with []api.Blob
		p           api.Params
	}{
		{"K", base, base, api.Params{K: 3, N: 4, Chunk: 3}},
		{"K, L the same", nil, nil, api.Params{K: 1, N: 4, Chunk: 3}},
		{"N", base, base, api.Params{K: 2, N: 5, Chunk: 3}},
		{"Chunk", base, base, api.Params{K: 2, N: 4, Chunk: 4}},
		{"Chunk, no data", nil, nil, api.Params{K: 2, N: 4, Chunk: 4}},
		{"a name", base, []api.Blob{blob("ab", "1"), blob("d", "22")}, p},
		{"the first name", base, []api.Blob{blob("aa", "1"), blob("c", "22")}, p},
		{"names of other lengths", base, []api.Blob{blob("a", "1"), blob("bc", "22")}, p},
		{"names in capitals", base, []api.Blob{blob("ab", "1"), blob("C", "22")}, p},
		{"sizes the other way round", base, []api.Blob{blob("ab", "11"), blob("c", "2")}, p},
		{"a size", base, []api.Blob{blob("ab", "1"), blob("c", "222")}, p},
		{"a blob more, of no bytes", base, append(base[:2:2], blob("d", "")), p},
		{"a blob fewer, of no bytes", []api.Blob{blob("a", "")}, nil, p},
		{"all", base, []api.Blob{blob("x", "another")}, api.Params{K: 3, N: 5, Chunk: 1}},
	} {
		one := wantShards(c.blobs, p)
		two := wantShards(c.with, c.p)
		for i := range one {
			for j := range two {
				what := "another " + c.what + ", shards " + strconv.Itoa(i) + " and " + strconv.Itoa(j)
				checkUndecoded(t, what, [][]byte{one[i], two[j]}, api.ErrMixed)
				checkUndecoded(t, what+", the last of many", append(one[:4:4], two[j]), api.ErrMixed)
				checkUndecoded(t, what+", the first of many", append([][]byte{two[j]}, one...), api.ErrMixed)
				checkUndecoded(t, what+", in the middle", [][]byte{one[0], one[1], two[j], one[2], one[3]}, api.ErrMixed)
				checkUndecoded(t, what+", the first of many others", append([][]byte{one[i]}, two...), api.ErrMixed)
			}
		}
	}
}

// What a spoilt shard says of its archive does not count.
func TestP10SpoiltShardsMixNothing(t *testing.T) {
	shards := wantShards(fourBlobs(), api.Params{K: 2, N: 4, Chunk: 3})
	other := wantShards([]api.Blob{blob("x", "another")}, api.Params{K: 3, N: 5, Chunk: 1})
	given := [][]byte{other[0][:len(other[0])-1], shards[3], append(other[1][:len(other[1]):len(other[1])], 0), shards[0][:50], shards[0], shards[3][:20]}
	verdicts := []api.Errno{api.ErrShort, api.OK, api.ErrMore, api.ErrShort, api.OK, api.ErrShort}
	checkDecode(t, "spoilt ones of another archive, and of the same indexes", given, sortedByName(fourBlobs()), verdicts, api.OK)
}

func TestP10Twice(t *testing.T) {
	for _, p := range []api.Params{{K: 1, N: 1, Chunk: 2}, {K: 1, N: 3, Chunk: 2}, {K: 2, N: 2, Chunk: 2}, {K: 2, N: 4, Chunk: 3}, {K: 4, N: 4, Chunk: 1}} {
		shards := wantShards([]api.Blob{blob("a", "12345678")}, p)
		other := wantShards([]api.Blob{blob("a", "ABCDEFGH")}, p)
		for i, s := range shards {
			what := "shard " + strconv.Itoa(i)
			checkUndecoded(t, what+" twice", [][]byte{s, bytes.Clone(s)}, api.ErrTwice)
			checkUndecoded(t, what+" and another of the index", [][]byte{s, other[i]}, api.ErrTwice)
			checkUndecoded(t, what+" three times", [][]byte{s, s, s}, api.ErrTwice)
			checkUndecoded(t, what+" behind all", append(shards[:p.N:p.N], s), api.ErrTwice)
			checkUndecoded(t, what+" ahead of all", append([][]byte{s}, shards...), api.ErrTwice)
			checkUndecoded(t, what+" of another archive behind all", append(shards[:p.N:p.N], other[i]), api.ErrTwice)
		}
		checkUndecoded(t, "all twice", append(shards[:p.N:p.N], shards...), api.ErrTwice)
	}
	shards := wantShards([]api.Blob{blob("a", "12345678")}, api.Params{K: 3, N: 5, Chunk: 2})
	checkUndecoded(t, "apart", chosen(shards, 4, 1, 3, 0, 4), api.ErrTwice)
	checkUndecoded(t, "many times", slices.Repeat(shards[2:3], 20000), api.ErrTwice)
}

func TestP10Few(t *testing.T) {
	for _, p := range []api.Params{{K: 1, N: 1, Chunk: 2}, {K: 1, N: 128, Chunk: 2}, {K: 2, N: 2, Chunk: 2}, {K: 3, N: 7, Chunk: 3}, {K: 5, N: 5, Chunk: 1}, {K: 64, N: 128, Chunk: 1}, {K: 127, N: 128, Chunk: 5}, {K: 128, N: 128, Chunk: 1}} {
		shards := wantShards([]api.Blob{blob("a", "12345678"), blob("b", "9")}, p)
		for count := range p.K {
			checkUndecoded(t, "the first "+strconv.Itoa(count), shards[:count], api.ErrFew)
			checkUndecoded(t, "the last "+strconv.Itoa(count), shards[p.N-count:], api.ErrFew)
		}
		for count := p.K; count <= p.N; count++ {
			checkDecoded(t, "the last "+strconv.Itoa(count), shards[p.N-count:], []api.Blob{blob("a", "12345678"), blob("b", "9")})
		}
	}
}

// Each byte of each column of all shards is changed, one at a time: no blobs have them all.
func TestP10OddColumns(t *testing.T) {
	blobs := []api.Blob{blob("a", "12345"), blob("b", "678")}
	for _, p := range []api.Params{{K: 1, N: 2, Chunk: 3}, {K: 2, N: 3, Chunk: 1}, {K: 2, N: 5, Chunk: 4}, {K: 4, N: 6, Chunk: 2}, {K: 3, N: 4, Chunk: 2}} {
		shards := wantShards(blobs, p)
		for i := range shards {
			s, _, _ := wantParse(shards[i])
			for m := range s.Column {
				d := drafted(blobs, p, i)
				d.frames[m/p.Chunk][m%p.Chunk] ^= 64
				given := append([][]byte(nil), shards...)
				given[i] = d.bytes()
				if _, errno, _ := wantParse(given[i]); errno == api.OK {
					checkUndecoded(t, "byte "+strconv.Itoa(m)+" of column "+strconv.Itoa(i), given, api.ErrOdd)
					slices.Reverse(given)
					checkUndecoded(t, "byte "+strconv.Itoa(m)+" of column "+strconv.Itoa(i)+", the other way round", given, api.ErrOdd)
				}
				checkDecodeLikeWant(t, "a byte of a column", given)
			}
		}
	}
}

// K shards of two archives of the same names and sizes are a third archive's, if nothing fills the columns up.
func TestP10ColumnsOfTwoArchives(t *testing.T) {
	p := api.Params{K: 2, N: 4, Chunk: 2}
	one := wantShards([]api.Blob{blob("a", "wx"), blob("b", "yz")}, p)
	two := wantShards([]api.Blob{blob("a", "WX"), blob("b", "YZ")}, p)
	checkDecoded(t, "column 0 of one, 1 of two", [][]byte{one[0], two[1]}, []api.Blob{blob("a", "wx"), blob("b", "YZ")})
	checkDecoded(t, "column 1 of one, 0 of two", [][]byte{one[1], two[0]}, []api.Blob{blob("a", "WX"), blob("b", "yz")})
	checkUndecoded(t, "columns 0 and 1 of one, 2 of two", [][]byte{one[0], one[1], two[2]}, api.ErrOdd)
	checkUndecoded(t, "columns 0 and 3 of one, 1 and 2 of two", [][]byte{one[0], two[1], two[2], one[3]}, api.ErrOdd)
	for i := range 4 {
		for j := range 4 {
			if i != j {
				if errno := checkDecodeLikeWant(t, "two columns", [][]byte{one[i], two[j]}); errno != api.OK {
					t.Errorf("P10: columns %d and %d of two archives: %d", i, j, errno)
				}
			}
		}
	}
}

// Columns that agree where the data stands, and not where they are filled up: each byte of each column from K on is changed, and just K are there.
func TestP10OddWhereColumnsAreFilledUp(t *testing.T) {
	seen := make(map[api.Errno]int)
	for k := 1; k <= 5; k++ {
		for size := 1; size <= 9; size++ {
			p := api.Params{K: k, N: k + 2, Chunk: 2}
			blobs := []api.Blob{blob("a", "ninebytes"[:size])}
			shards := wantShards(blobs, p)
			for last := k; last < p.N; last++ {
				s, _, _ := wantParse(shards[last])
				for m := range s.Column {
					d := drafted(blobs, p, last)
					d.frames[m/2][m%2] ^= 1
					for missing := range k {
						given := append([][]byte{d.bytes()}, slices.Delete(slices.Clone(shards[:k]), missing, missing+1)...)
						want := api.OK
						if missing*len(s.Column)+m >= size {
							want = api.ErrOdd
						}
						if errno := checkDecodeLikeWant(t, "a column from K on changed", given); errno != want {
							t.Fatalf("K %d, %d bytes, column %d missing, byte %d: %d, want %d", k, size, missing, m, errno, want)
						}
						seen[want]++
					}
				}
			}
		}
	}
	if seen[api.OK] < 50 || seen[api.ErrOdd] < 50 {
		t.Errorf("only %v", seen)
	}
}

// A column that stands for none of the data must come out as noughts, even if all of it was worked out of columns from K on.
func TestP10OddColumnsOfNoData(t *testing.T) {
	p := api.Params{K: 3, N: 7, Chunk: 1}
	write := func(index int, value byte) []byte {
		b, errno := cairn.Write(api.Shard{K: p.K, N: p.N, Index: index, Chunk: 1, Names: []string{"a"}, Sizes: []int{1}, Column: []byte{value}})
		if errno != api.OK {
			t.Fatalf("P8: %d", errno)
		}
		return b
	}
	shards := wantShards([]api.Blob{blob("a", "x")}, p)
	checkDecoded(t, "three from K on", shards[3:6], []api.Blob{blob("a", "x")})
	taken := 0
	for value := range 256 {
		switch _, _, errno := cairn.Decode([][]byte{shards[3], shards[4], write(5, byte(value))}); errno {
		case api.OK:
			taken++
		case api.ErrOdd:
		default:
			t.Fatalf("P10: a third column of %d: %d", value, errno)
		}
	}
	if taken != 1 {
		t.Errorf("P10: %d third columns are taken, want 1", taken)
	}
}

func TestP10ErrorNamedFirst(t *testing.T) {
	p := api.Params{K: 3, N: 7, Chunk: 1}
	one := wantShards([]api.Blob{blob("a", "x")}, p)
	two := wantShards([]api.Blob{blob("a", "y")}, p)
	mixed := wantShards([]api.Blob{blob("b", "x")}, p)
	for _, c := range []struct {
		what   string
		shards [][]byte
		errno  api.Errno
	}{
		{"mixed ahead of few", [][]byte{one[0], mixed[1]}, api.ErrMixed},
		{"mixed ahead of twice", [][]byte{one[0], one[1], one[2], mixed[2]}, api.ErrMixed},
		{"mixed ahead of twice and few", [][]byte{one[0], mixed[0]}, api.ErrMixed},
		{"mixed ahead of twice in one archive", [][]byte{one[3], one[3], mixed[0]}, api.ErrMixed},
		{"mixed ahead of twice in the other", [][]byte{mixed[3], one[0], mixed[3]}, api.ErrMixed},
		{"mixed ahead of odd", [][]byte{one[0], one[1], one[2], two[3], mixed[4]}, api.ErrMixed},
		{"mixed ahead of all", [][]byte{one[0], two[0], mixed[0]}, api.ErrMixed},
		{"mixed, enough of both", [][]byte{one[0], one[1], one[2], mixed[3], mixed[4], mixed[5]}, api.ErrMixed},
		{"twice ahead of few", [][]byte{one[5], one[5]}, api.ErrTwice},
		{"twice ahead of few, as many as K", [][]byte{one[5], one[4], one[5]}, api.ErrTwice},
		{"twice ahead of odd", [][]byte{one[0], one[1], one[2], two[3], one[1]}, api.ErrTwice},
		{"twice ahead of odd, other columns", [][]byte{one[0], one[1], one[2], one[3], two[3]}, api.ErrTwice},
		{"twice ahead of few and odd", [][]byte{one[0], two[0]}, api.ErrTwice},
		{"few ahead of odd", [][]byte{one[0], two[3]}, api.ErrFew},
		{"few ahead of odd, from K on", [][]byte{one[5], two[6]}, api.ErrFew},
		{"odd", [][]byte{one[0], one[1], two[3]}, api.ErrOdd},
		{"odd, more than K", [][]byte{one[0], one[5], two[3], one[6]}, api.ErrOdd},
	} {
		arrangements(len(c.shards), len(c.shards), nil, func(order []int) {
			checkUndecoded(t, c.what, chosen(c.shards, order...), c.errno)
		})
		checkDecodeLikeWant(t, c.what, c.shards)
	}
}

// The blobs come by their names, each with its own data, wherever the columns cut it.
func TestP10BlobsByTheirNames(t *testing.T) {
	names := []string{"\x00", "\x00\x00", "A", "B", "a", "a\x00", "aa", "ab", "b", "\x7f", "\x80", "ä", "\xff", "\xff\xff"}
	var blobs []api.Blob
	for i, name := range names {
		blobs = append(blobs, blob(name, strings.Repeat(strconv.Itoa(i%10), i%5)))
	}
	given := slices.Clone(blobs)
	slices.Reverse(given)
	for k := 1; k <= 9; k++ {
		shards, errno := cairn.Encode(given, api.Params{K: k, N: 2 * k, Chunk: 4})
		if errno != api.OK {
			t.Fatalf("P6: %d", errno)
		}
		checkDecoded(t, "many names", shards[:k], blobs)
		checkDecoded(t, "many names, from K on", shards[k:], blobs)
	}
}

func TestP10ManyBlobs(t *testing.T) {
	blobs := numbered(1000, 255)
	blobs[7].Data = make([]byte, 60000)
	rand.New(rand.NewSource(61)).Read(blobs[7].Data)
	shards, errno := cairn.Encode(blobs, api.Params{K: 3, N: 5, Chunk: 7000})
	if errno != api.OK {
		t.Fatalf("P6: %d", errno)
	}
	checkDecoded(t, "1000 blobs with long names", chosen(shards, 4, 1, 3), sortedByName(blobs))
	checkDecoded(t, "1000 blobs with long names, all shards", shards, sortedByName(blobs))
}

// Lists of whole, odd and spoilt shards of a few archives, held against the document's words.
func TestP10AnyLists(t *testing.T) {
	random := rand.New(rand.NewSource(62))
	seen := make(map[api.Errno]int)
	for range 20000 {
		n := 1 + random.Intn(5)
		p := api.Params{K: 1 + random.Intn(n), N: n, Chunk: 1 + random.Intn(3)}
		sizes := []int{random.Intn(4), random.Intn(4)}
		archive := func() [][]byte {
			data := randomColumns(random, 1, sizes[0]+sizes[1])[0]
			return wantShards([]api.Blob{{Name: "a", Data: data[:sizes[0]]}, {Name: "b", Data: data[sizes[0]:]}}, p)
		}
		pool := archive()
		var given [][]byte
		for _, i := range random.Perm(n)[:random.Intn(n+1)] {
			given = append(given, pool[i])
		}
		for range random.Intn(2) {
			given = append(given, archive()[random.Intn(n)])
		}
		for range random.Intn(3) / 2 {
			given = append(given, spoil(random, randomDraft(random)))
		}
		random.Shuffle(len(given), func(i, j int) { given[i], given[j] = given[j], given[i] })
		seen[checkDecodeLikeWant(t, "any list", given)]++
	}
	for _, errno := range []api.Errno{api.OK, api.ErrMixed, api.ErrTwice, api.ErrFew, api.ErrOdd} {
		if seen[errno] < 200 {
			t.Errorf("only %d lists are %d", seen[errno], errno)
		}
	}
}

func TestP10AnswerDoesNotHangOnHowGoroutinesRun(t *testing.T) {
	random := rand.New(rand.NewSource(63))
	blobs := randomBlobs(random, 30, 500)
	shards, _ := cairn.Encode(blobs, api.Params{K: 40, N: 120, Chunk: 9})
	given := append(shards[50:110:110], shards[0][:90])
	want, wantVerdicts, _ := cairn.Decode(given)
	if !sameBlobs(want, sortedByName(blobs)) {
		t.Fatalf("P10: other blobs")
	}
	for range 20 {
		got, verdicts, errno := cairn.Decode(given)
		if errno != api.OK || !reflect.DeepEqual(got, want) || !slices.Equal(verdicts, wantVerdicts) {
			t.Fatalf("P10: another answer to the same shards, %d", errno)
		}
	}
}
