package cairn_test

import (
	"bytes"
	"encoding/binary"
	"hash/crc64"
	"math"
	"math/rand"
	"reflect"
	"sort"
	"strconv"
	"strings"
	"testing"

	"cairn/api"
	"cairn/cairn"
)

func blob(name string, data string) api.Blob { return api.Blob{Name: name, Data: []byte(data)} }

func sealed(part []byte) []byte {
	return binary.LittleEndian.AppendUint64(bytes.Clone(part), crc64.Checksum(part, crc64.MakeTable(crc64.ECMA)))
}

func wantHead(p api.Params, index int, manifest int, length int) []byte {
	head := append([]byte("CAIRN1"), byte(p.K), byte(p.N), byte(index), 0)
	head = binary.LittleEndian.AppendUint32(head, uint32(p.Chunk))
	head = binary.LittleEndian.AppendUint32(head, uint32(manifest))
	head = binary.LittleEndian.AppendUint32(head, uint32(length))
	return sealed(append(head, 0, 0))
}

func wantManifest(sorted []api.Blob) []byte {
	manifest := binary.LittleEndian.AppendUint32(nil, uint32(len(sorted)))
	for _, b := range sorted {
		manifest = binary.LittleEndian.AppendUint16(manifest, uint16(len(b.Name)))
		manifest = append(manifest, b.Name...)
		manifest = binary.LittleEndian.AppendUint32(manifest, uint32(len(b.Data)))
	}
	return manifest
}

func wantFrames(column []byte, chunk int) []byte {
	var frames []byte
	for len(column) > 0 {
		size := min(chunk, len(column))
		frames = append(frames, sealed(column[:size])...)
		column = column[size:]
	}
	return frames
}

// wantFirst is the columns 0 to k - 1 of an archive of this data, by the document's words.
func wantFirst(data []byte, k int) [][]byte {
	length := 0
	for k*length < len(data) {
		length++
	}
	first := make([][]byte, k)
	for j := range first {
		first[j] = make([]byte, length)
		for m := range first[j] {
			if j*length+m < len(data) {
				first[j][m] = data[j*length+m]
			}
		}
	}
	return first
}

func sortedByName(blobs []api.Blob) []api.Blob {
	sorted := append([]api.Blob(nil), blobs...)
	sort.Slice(sorted, func(i, j int) bool { return bytes.Compare([]byte(sorted[i].Name), []byte(sorted[j].Name)) < 0 })
	return sorted
}

// wantShards is Encode by the document's words.
func wantShards(blobs []api.Blob, p api.Params) [][]byte {
	sorted := sortedByName(blobs)
	var data []byte
	for _, b := range sorted {
		data = append(data, b.Data...)
	}
	manifest := wantManifest(sorted)
	first := wantFirst(data, p.K)
	shards := make([][]byte, p.N)
	for i := range shards {
		head := wantHead(p, i, len(manifest), len(first[0]))
		frames := wantFrames(wantColumn(first, i), p.Chunk)
		shards[i] = bytes.Join([][]byte{head, sealed(manifest), frames, []byte("DONE")}, nil)
	}
	return shards
}

func checkShards(t *testing.T, what string, got [][]byte, errno api.Errno, want [][]byte) {
	t.Helper()
	if errno != api.OK || len(got) != len(want) {
		t.Fatalf("P6: %s: %d shards, %d, want %d and OK", what, len(got), errno, len(want))
	}
	for i := range got {
		if !bytes.Equal(got[i], want[i]) {
			t.Fatalf("P6: %s: shard %d has %d bytes, want %d; they differ from byte %d on", what, i, len(got[i]), len(want[i]), firstOther(got[i], want[i]))
		}
	}
}

func firstOther(a []byte, b []byte) int {
	i := 0
	for i < len(a) && i < len(b) && a[i] == b[i] {
		i++
	}
	return i
}

func checkEncode(t *testing.T, what string, blobs []api.Blob, p api.Params) {
	t.Helper()
	got, errno := cairn.Encode(blobs, p)
	checkShards(t, what, got, errno, wantShards(blobs, p))
}

func checkRefused(t *testing.T, what string, blobs []api.Blob, p api.Params, want api.Errno) {
	t.Helper()
	if got, errno := cairn.Encode(blobs, p); errno != want || len(got) != 0 {
		t.Errorf("P6: %s: %d shards, %d, want none and %d", what, len(got), errno, want)
	}
}

func TestP6NoBlobs(t *testing.T) {
	want := []byte("CAIRN1\x01\x01\x00\x00\x01\x00\x00\x00\x04\x00\x00\x00\x00\x00\x00\x00\x00\x00")
	want = append(sealed(want), sealed([]byte{0, 0, 0, 0})...)
	want = append(want, "DONE"...)
	for _, blobs := range [][]api.Blob{nil, {}} {
		got, errno := cairn.Encode(blobs, api.Params{K: 1, N: 1, Chunk: 1})
		checkShards(t, "no blobs", got, errno, [][]byte{want})
	}
	checkEncode(t, "no blobs in many parts", nil, api.Params{K: 128, N: 128, Chunk: 65536})
	checkEncode(t, "no blobs, parts worked out", nil, api.Params{K: 3, N: 9, Chunk: 2})
}

func TestP6Example(t *testing.T) {
	p := api.Params{K: 2, N: 3, Chunk: 1}
	manifest := sealed([]byte("\x01\x00\x00\x00\x01\x00a\x03\x00\x00\x00"))
	x, y, z := byte('x'), byte('y'), byte('z')
	var want [][]byte
	for i, c := range [][]byte{{x, y}, {z, 0}, {multiply(142, x) ^ multiply(244, z), multiply(142, y)}} {
		want = append(want, bytes.Join([][]byte{wantHead(p, i, 11, 2), manifest, sealed(c[:1]), sealed(c[1:]), []byte("DONE")}, nil))
	}
	got, errno := cairn.Encode([]api.Blob{blob("a", "xyz")}, p)
	checkShards(t, "the document's example", got, errno, want)
	if len(got[0]) != 32+11+8+2*9+4 {
		t.Errorf("P6: the document's example has %d bytes", len(got[0]))
	}
}

func TestP6DataOfNoBytes(t *testing.T) {
	blobs := []api.Blob{blob("b", ""), {Name: "a"}, blob("c", "")}
	checkEncode(t, "all empty", blobs, api.Params{K: 2, N: 4, Chunk: 3})
	checkEncode(t, "all but one empty", append(blobs, blob("bb", "data")), api.Params{K: 2, N: 4, Chunk: 3})
	filled, _ := cairn.Encode([]api.Blob{{Name: "a", Data: []byte{}}}, api.Params{K: 1, N: 2, Chunk: 1})
	checkShards(t, "nil and no bytes", filled, api.OK, wantShards([]api.Blob{{Name: "a"}}, api.Params{K: 1, N: 2, Chunk: 1}))
}

func randomBlobs(random *rand.Rand, count int, longest int) []api.Blob {
	blobs := make([]api.Blob, count)
	for i := range blobs {
		name := make([]byte, 1+random.Intn(12))
		data := make([]byte, random.Intn(longest+1))
		random.Read(name)
		random.Read(data)
		blobs[i] = api.Blob{Name: string(name) + strconv.Itoa(i), Data: data}
	}
	return blobs
}

// anyArchives calls use with blobs and params of all kinds: short data in chunks of all lengths, random blobs, the greatest numbers, and as much data and as long a manifest as there may be.
func anyArchives(use func(what string, blobs []api.Blob, p api.Params)) {
	for _, parts := range [][2]int{{1, 1}, {1, 3}, {2, 2}, {3, 5}, {7, 8}} {
		for length := range 20 {
			for _, chunk := range []int{1, 2, 3, 5, 19, 20, 65536} {
				data := "the bytes of one blob"[:length]
				use(strconv.Itoa(length)+" bytes, chunk "+strconv.Itoa(chunk), []api.Blob{blob("name", data)}, api.Params{K: parts[0], N: parts[1], Chunk: chunk})
			}
		}
	}
	random := rand.New(rand.NewSource(20))
	for range 60 {
		n := 1 + random.Intn(12)
		p := api.Params{K: 1 + random.Intn(n), N: n, Chunk: 1 + random.Intn(30)}
		use("random blobs", randomBlobs(random, random.Intn(20), 30), p)
	}
	blobs := randomBlobs(random, 40, 60)
	for _, p := range []api.Params{
		{K: 128, N: 128, Chunk: 1}, {K: 128, N: 128, Chunk: 65536}, {K: 127, N: 128, Chunk: 7}, {K: 64, N: 128, Chunk: 4},
		{K: 1, N: 128, Chunk: 100}, {K: 1, N: 1, Chunk: 65536}, {K: 1, N: 1, Chunk: 1}, {K: 1, N: 2, Chunk: 65535},
	} {
		use("great numbers", blobs, p)
	}
	whole := make([]byte, 65536)
	random.Read(whole)
	for _, p := range []api.Params{{K: 1, N: 2, Chunk: 65536}, {K: 1, N: 1, Chunk: 65535}, {K: 1, N: 1, Chunk: 1}, {K: 3, N: 4, Chunk: 1000}, {K: 128, N: 128, Chunk: 1}} {
		use("65536 bytes", []api.Blob{{Name: "b", Data: whole[1:]}, {Name: "a", Data: whole[:1]}}, p)
	}
	use("1000 blobs with long names", numbered(1000, 255), api.Params{K: 2, N: 3, Chunk: 65536})
}

func TestP6AnyBlobs(t *testing.T) {
	anyArchives(func(what string, blobs []api.Blob, p api.Params) { checkEncode(t, what, blobs, p) })
}

func TestP6GreatestTotal(t *testing.T) {
	data := make([]byte, 65536)
	rand.New(rand.NewSource(22)).Read(data)
	whole := string(data)
	for _, p := range []api.Params{{K: 1, N: 2, Chunk: 65536}, {K: 1, N: 1, Chunk: 65535}, {K: 3, N: 4, Chunk: 1000}, {K: 128, N: 128, Chunk: 1}} {
		checkEncode(t, "65536 bytes in one", []api.Blob{blob("a", whole)}, p)
		checkEncode(t, "65536 bytes in three", []api.Blob{blob("b", whole[9:60000]), blob("c", whole[60000:]), blob("a", whole[:9])}, p)
		checkRefused(t, "65537 bytes in one", []api.Blob{blob("a", whole+"1")}, p, api.ErrMany)
		checkRefused(t, "65537 bytes in two, the first too many", []api.Blob{blob("a", whole+"1"), blob("b", "")}, p, api.ErrMany)
		checkRefused(t, "65537 bytes in two", []api.Blob{blob("b", whole), blob("a", "1")}, p, api.ErrMany)
		checkRefused(t, "65537 bytes in three", []api.Blob{blob("b", whole[:65535]), blob("a", "1"), blob("c", "1")}, p, api.ErrMany)
		checkRefused(t, "twice 65536 bytes", []api.Blob{blob("b", whole), blob("a", whole)}, p, api.ErrMany)
	}
}

// numbered gives so many blobs of one byte each whose names have so many bytes.
func numbered(count int, length int) []api.Blob {
	blobs := make([]api.Blob, count)
	for i := range blobs {
		number := strconv.Itoa(10000 + i)
		blobs[i] = blob(strings.Repeat("n", length-len(number))+number, number[4:])
	}
	rand.New(rand.NewSource(23)).Shuffle(count, func(i, j int) { blobs[i], blobs[j] = blobs[j], blobs[i] })
	return blobs
}

func TestP6ManyBlobs(t *testing.T) {
	p := api.Params{K: 2, N: 3, Chunk: 50}
	for _, length := range []int{5, 6, 255} {
		checkEncode(t, "999 blobs", numbered(999, length), p)
		checkEncode(t, "1000 blobs", numbered(1000, length), p)
		checkRefused(t, "1001 blobs", numbered(1001, length), p, api.ErrMany)
		checkRefused(t, "5000 blobs", numbered(5000, length), p, api.ErrMany)
	}
	empty := numbered(1001, 5)
	for i := range empty {
		empty[i].Data = nil
	}
	checkRefused(t, "1001 blobs of no bytes", empty, p, api.ErrMany)
	checkEncode(t, "1000 blobs of no bytes", empty[:1000], p)
}

func TestP6LengthsOfNames(t *testing.T) {
	p := api.Params{K: 2, N: 3, Chunk: 5}
	for _, length := range []int{1, 2, 127, 128, 254, 255} {
		checkEncode(t, "a name of "+strconv.Itoa(length), []api.Blob{blob(strings.Repeat("x", length), "data"), blob("y", "")}, p)
	}
	for _, length := range []int{0, 256, 257, 511, 512, 65536, 65537, 1 << 20} {
		name := strings.Repeat("x", length)
		what := "a name of " + strconv.Itoa(length)
		checkRefused(t, what, []api.Blob{blob(name, "data")}, p, api.ErrName)
		checkRefused(t, what+" ahead", []api.Blob{blob(name, ""), blob("y", "")}, p, api.ErrName)
		checkRefused(t, what+" behind", []api.Blob{blob("a", ""), blob("y", "1"), blob(name, "")}, p, api.ErrName)
	}
	// Bytes count, not letters: these are 128 letters of two bytes.
	checkRefused(t, "256 bytes in 128 letters", []api.Blob{blob(strings.Repeat("ä", 128), "")}, p, api.ErrName)
	checkEncode(t, "254 bytes in 127 letters", []api.Blob{blob(strings.Repeat("ä", 127), "")}, p)
}

func TestP6NamesAreInTheOrderOfTheirBytes(t *testing.T) {
	p := api.Params{K: 1, N: 1, Chunk: 64}
	names := []string{"\x00", "\x00\x00", "\x00a", "A", "B", "a", "a\x00", "aa", "ab", "abc", "b", "z", "\x7f", "\x80", "ä", "é", "\xff", "\xff\x00", "\xff\xff"}
	var blobs []api.Blob
	for i, name := range names {
		blobs = append(blobs, api.Blob{Name: name, Data: []byte{byte(i)}})
	}
	data := make([]byte, len(blobs))
	for i := range data {
		data[i] = byte(i)
	}
	manifest := wantManifest(blobs)
	want := bytes.Join([][]byte{wantHead(p, 0, len(manifest), len(data)), sealed(manifest), sealed(data), []byte("DONE")}, nil)
	random := rand.New(rand.NewSource(24))
	for range 50 {
		got, errno := cairn.Encode(blobs, p)
		checkShards(t, "names in any order", got, errno, [][]byte{want})
		random.Shuffle(len(blobs), func(i, j int) { blobs[i], blobs[j] = blobs[j], blobs[i] })
	}
}

func TestP6BlobsInAnyOrder(t *testing.T) {
	p := api.Params{K: 2, N: 4, Chunk: 3}
	all := []api.Blob{blob("d", "4444"), blob("a", "1"), blob("c", "333"), blob("b", "22"), blob("ab", "")}
	want := wantShards(all, p)
	arrangements(len(all), len(all), nil, func(order []int) {
		var blobs []api.Blob
		for _, i := range order {
			blobs = append(blobs, all[i])
		}
		got, errno := cairn.Encode(blobs, p)
		checkShards(t, "another order", got, errno, want)
	})
}

func TestP6TwoNamesTheSame(t *testing.T) {
	p := api.Params{K: 2, N: 3, Chunk: 1}
	checkRefused(t, "side by side", []api.Blob{blob("a", "1"), blob("a", "1")}, p, api.ErrName)
	checkRefused(t, "other data", []api.Blob{blob("a", "1"), blob("a", "2")}, p, api.ErrName)
	checkRefused(t, "no data", []api.Blob{blob("a", ""), blob("a", "")}, p, api.ErrName)
	checkRefused(t, "apart", []api.Blob{blob("b", "1"), blob("a", "1"), blob("c", ""), blob("b", "1")}, p, api.ErrName)
	checkRefused(t, "the last two", []api.Blob{blob("a", ""), blob("c", ""), blob("b", ""), blob("c", "")}, p, api.ErrName)
	checkRefused(t, "three", []api.Blob{blob("a", ""), blob("a", ""), blob("a", "")}, p, api.ErrName)
	long := strings.Repeat("x", 254)
	checkRefused(t, "long", []api.Blob{blob(long+"1", ""), blob(long+"2", ""), blob(long+"1", "")}, p, api.ErrName)
	checkEncode(t, "only alike", []api.Blob{blob(long+"1", ""), blob(long+"2", ""), blob(long, ""), blob("A", ""), blob("a", "")}, p)
	many := numbered(1000, 8)
	for _, at := range []int{1, 500, 999} {
		twice := append([]api.Blob(nil), many...)
		twice[at].Name = twice[0].Name
		checkRefused(t, "in 1000", twice, p, api.ErrName)
	}
}

func wrongParams() []api.Params {
	var wrong []api.Params
	for _, c := range wrongParts() {
		wrong = append(wrong, api.Params{K: c[0], N: c[1], Chunk: 5})
	}
	for _, chunk := range []int{0, -1, 65537, 65536 * 2, 1 << 32, 1<<32 + 1, math.MinInt, math.MinInt + 1, math.MaxInt} {
		wrong = append(wrong, api.Params{K: 2, N: 3, Chunk: chunk})
	}
	return append(wrong, api.Params{})
}

func TestP6WrongParams(t *testing.T) {
	for _, p := range wrongParams() {
		what := "K " + strconv.Itoa(p.K) + ", N " + strconv.Itoa(p.N) + ", Chunk " + strconv.Itoa(p.Chunk)
		checkRefused(t, what, []api.Blob{blob("a", "xyz")}, p, api.ErrParams)
		checkRefused(t, what+", no blobs", nil, p, api.ErrParams)
	}
}

func TestP6ErrorNamedFirst(t *testing.T) {
	big := strings.Repeat("d", 65537)
	wrongName := [][]api.Blob{{blob("", big)}, {blob("a", big), blob("a", "")}, append(numbered(1001, 9), blob("", "")), append(numbered(1001, 9), numbered(1, 9)...),
		append(numbered(1001, 9), blob(strings.Repeat("x", 256), "")), {blob("b", big), blob(strings.Repeat("x", 256), "")}}
	for i, blobs := range wrongName {
		checkRefused(t, "a wrong name beside too much, case "+strconv.Itoa(i), blobs, api.Params{K: 2, N: 3, Chunk: 5}, api.ErrName)
	}
	tooMany := [][]api.Blob{{blob("a", big)}, numbered(1001, 9)}
	for _, p := range wrongParams() {
		for i, blobs := range append(wrongName, tooMany...) {
			checkRefused(t, "wrong params beside other faults, case "+strconv.Itoa(i), blobs, p, api.ErrParams)
		}
	}
}

func TestP6AnswerDoesNotHangOnHowGoroutinesRun(t *testing.T) {
	random := rand.New(rand.NewSource(25))
	blobs := randomBlobs(random, 30, 500)
	p := api.Params{K: 40, N: 120, Chunk: 9}
	want, _ := cairn.Encode(blobs, p)
	for range 20 {
		if got, errno := cairn.Encode(blobs, p); errno != api.OK || !reflect.DeepEqual(got, want) {
			t.Fatalf("P6: another answer to the same blobs, %d", errno)
		}
	}
}

// The columns of what Encode tells give its data back, by any K of them.
func TestP6ColumnsGiveTheDataBack(t *testing.T) {
	random := rand.New(rand.NewSource(26))
	data := make([]byte, 1000)
	random.Read(data)
	p := api.Params{K: 5, N: 11, Chunk: 200}
	shards, errno := cairn.Encode([]api.Blob{{Name: "a", Data: data}}, p)
	if errno != api.OK || len(shards) != p.N {
		t.Fatalf("P6: %d shards, %d", len(shards), errno)
	}
	for range 30 {
		var given []api.Column
		for _, i := range random.Perm(p.N)[:p.K] {
			frame := shards[i][len(shards[i])-4-8-200:]
			given = append(given, api.Column{Index: i, Data: frame[:200]})
		}
		columns, errno := cairn.Rebuild(p.K, p.N, given)
		if errno != api.OK || !bytes.Equal(bytes.Join(columns, nil), data) {
			t.Fatalf("P6: the columns of %d shards do not give the data back, %d", p.K, errno)
		}
	}
}
