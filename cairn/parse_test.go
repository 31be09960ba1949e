package cairn_test

import (
	"bytes"
	"encoding/binary"
	"hash/crc64"
	"math/rand"
	"slices"
	"strconv"
	"strings"
	"testing"

	"cairn/api"
	"cairn/cairn"
)

func number32(b []byte) int { return int(binary.LittleEndian.Uint32(b)) }

// hasSum tells whether the 8 bytes behind place end are the sum of those from place begin to there.
func hasSum(b []byte, begin int, end int) bool {
	return binary.LittleEndian.Uint64(b[end:]) == crc64.Checksum(b[begin:end], crc64.MakeTable(crc64.ECMA))
}

// wantParse is Parse by the document's words.
func wantParse(b []byte) (api.Shard, api.Errno, int) {
	if errno, place := wantParseHead(b); errno != api.OK {
		return api.Shard{}, errno, place
	}
	s := api.Shard{K: int(b[6]), N: int(b[7]), Index: int(b[8]), Chunk: number32(b[10:])}
	end := 32 + number32(b[14:])
	if len(b) < end+8 {
		return api.Shard{}, api.ErrShort, len(b)
	}
	if !hasSum(b, 32, end) {
		return api.Shard{}, api.ErrSum, end
	}
	if place := wantParseManifest(b, end, &s); place >= 0 {
		return api.Shard{}, api.ErrManifest, place
	}
	total := 0
	for _, size := range s.Sizes {
		total += size
	}
	length := 0
	for s.K*length < total {
		length++
	}
	if number32(b[18:]) != length {
		return api.Shard{}, api.ErrManifest, 18
	}
	at := end + 8
	for len(s.Column) < length {
		size := min(s.Chunk, length-len(s.Column))
		if len(b) < at+size+8 {
			return api.Shard{}, api.ErrShort, len(b)
		}
		if !hasSum(b, at, at+size) {
			return api.Shard{}, api.ErrSum, at + size
		}
		for m, value := range b[at : at+size] {
			if s.Index < s.K && s.Index*length+len(s.Column) >= total && value != 0 {
				return api.Shard{}, api.ErrPad, at + m
			}
			s.Column = append(s.Column, value)
		}
		at += size + 8
	}
	for i := range 4 {
		if at+i < len(b) && b[at+i] != "DONE"[i] {
			return api.Shard{}, api.ErrMagic, at + i
		}
	}
	if len(b) < at+4 {
		return api.Shard{}, api.ErrShort, len(b)
	}
	if len(b) > at+4 {
		return api.Shard{}, api.ErrMore, at + 4
	}
	return s, api.OK, 0
}

func wantParseHead(b []byte) (api.Errno, int) {
	for i := range 6 {
		if i < len(b) && b[i] != "CAIRN1"[i] {
			return api.ErrMagic, i
		}
	}
	switch {
	case len(b) < 32:
		return api.ErrShort, len(b)
	case !hasSum(b, 0, 24):
		return api.ErrSum, 24
	case b[6] < 1 || b[6] > 128:
		return api.ErrParams, 6
	case b[7] < b[6] || b[7] > 128:
		return api.ErrParams, 7
	case b[8] >= b[7]:
		return api.ErrParams, 8
	case b[9] != 0:
		return api.ErrParams, 9
	case number32(b[10:]) < 1 || number32(b[10:]) > 65536:
		return api.ErrParams, 10
	case number32(b[14:]) < 4 || number32(b[14:]) > 300000:
		return api.ErrParams, 14
	case number32(b[18:]) > 65536:
		return api.ErrParams, 18
	case b[22] != 0 || b[23] != 0:
		return api.ErrParams, 22
	}
	return api.OK, 0
}

// wantParseManifest lists the blobs, or gives the place where the manifest, which ends at end, may not be; -1 if it may.
func wantParseManifest(b []byte, end int, s *api.Shard) int {
	count := number32(b[32:])
	if count > 1000 {
		return 32
	}
	at, total := 36, 0
	for i := range count {
		if end-at < 2 {
			return at
		}
		length := int(b[at]) + 256*int(b[at+1])
		if length < 1 || length > 255 || end-at < 6+length {
			return at
		}
		name := b[at+2 : at+2+length]
		if i > 0 && bytes.Compare(name, []byte(s.Names[i-1])) <= 0 {
			return at + 2
		}
		size := number32(b[at+2+length:])
		total += size
		if total > 65536 {
			return at + 2 + length
		}
		s.Names, s.Sizes = append(s.Names, string(name)), append(s.Sizes, size)
		at += 6 + length
	}
	if at != end {
		return at
	}
	return -1
}

func sameShard(a api.Shard, b api.Shard) bool {
	return a.K == b.K && a.N == b.N && a.Index == b.Index && a.Chunk == b.Chunk &&
		slices.Equal(a.Names, b.Names) && slices.Equal(a.Sizes, b.Sizes) && bytes.Equal(a.Column, b.Column)
}

// briefly is a text that is not too long to be told.
func briefly(b []byte) string {
	if len(b) > 100 {
		return strconv.Itoa(len(b)) + " bytes"
	}
	return strconv.Quote(string(b))
}

func checkParse(t *testing.T, what string, b []byte, want api.Shard, wantErrno api.Errno, wantPlace int) {
	t.Helper()
	got, errno, place := cairn.Parse(b)
	if errno != wantErrno || place != wantPlace || !sameShard(got, want) {
		t.Fatalf("P7: %s: Parse(%s) = index %d of %d, a column of %d, %d at %d, want %d at %d", what, briefly(b), got.Index, got.N, len(got.Column), errno, place, wantErrno, wantPlace)
	}
}

func checkTaken(t *testing.T, what string, b []byte, want api.Shard) {
	t.Helper()
	checkParse(t, what, b, want, api.OK, 0)
}

func checkFault(t *testing.T, what string, b []byte, errno api.Errno, place int) {
	t.Helper()
	checkParse(t, what, b, api.Shard{}, errno, place)
}

// checkLikeWant holds Parse against the document's words.
func checkLikeWant(t *testing.T, what string, b []byte) {
	t.Helper()
	s, errno, place := wantParse(b)
	checkParse(t, what, b, s, errno, place)
}

// draft is a shard to be spoilt: what stands in it, without the sums.
type draft struct {
	head     []byte
	manifest []byte
	frames   [][]byte
	tail     string
}

// bytes gives the draft with its sums.
func (d draft) bytes() []byte {
	list := [][]byte{sealed(d.head), sealed(d.manifest)}
	for _, f := range d.frames {
		list = append(list, sealed(f))
	}
	return bytes.Join(append(list, []byte(d.tail)), nil)
}

// said gives the draft with a number of 4 bytes at a place of its head.
func (d draft) said(place int, number uint32) draft {
	d.head = bytes.Clone(d.head)
	binary.LittleEndian.PutUint32(d.head[place:], number)
	return d
}

// listing gives the draft with another manifest, and its number of bytes in the head.
func (d draft) listing(manifest []byte) draft {
	d.manifest = bytes.Clone(manifest)
	return d.said(14, uint32(len(manifest)))
}

// with gives the draft with a byte at a place of its head.
func (d draft) with(place int, value byte) draft {
	d.head = bytes.Clone(d.head)
	d.head[place] = value
	return d
}

// drafted is shard index of an archive of these blobs.
func drafted(blobs []api.Blob, p api.Params, index int) draft {
	sorted := sortedByName(blobs)
	var data []byte
	for _, b := range sorted {
		data = append(data, b.Data...)
	}
	d := draft{manifest: wantManifest(sorted), tail: "DONE"}
	first := wantFirst(data, p.K)
	d.head = wantHead(p, index, len(d.manifest), len(first[0]))[:24]
	for frame := range slices.Chunk(wantColumn(first, index), p.Chunk) {
		d.frames = append(d.frames, frame)
	}
	return d
}

// listed is a shard of K 1 and N 1 with this manifest, of which it has no frames.
func listed(manifest []byte) draft {
	return draft{head: wantHead(api.Params{K: 1, N: 1, Chunk: 1}, 0, len(manifest), 0)[:24], manifest: manifest, tail: "DONE"}
}

// example is shard 1 of the document's example: 32 bytes of head, 11 of manifest and 8 of its sum, two frames of 9 and the tail.
func example() draft {
	return drafted([]api.Blob{blob("a", "xyz")}, api.Params{K: 2, N: 3, Chunk: 1}, 1)
}

func TestP7Examples(t *testing.T) {
	b := example().bytes()
	checkTaken(t, "the document's example", b, api.Shard{K: 2, N: 3, Index: 1, Chunk: 1, Names: []string{"a"}, Sizes: []int{3}, Column: []byte{'z', 0}})
	checkFault(t, "nothing", nil, api.ErrShort, 0)
	checkFault(t, "no bytes", []byte{}, api.ErrShort, 0)
	checkFault(t, "CAIRX", []byte("CAIRX"), api.ErrMagic, 4)
	checkFault(t, "without its last byte", b[:72], api.ErrShort, 72)
	checkFault(t, "with a byte behind it", append(bytes.Clone(b), 0), api.ErrMore, 73)
	b[30] ^= 1
	checkFault(t, "byte 30 changed", b, api.ErrSum, 24)
}

func TestP7NoBlobs(t *testing.T) {
	for _, p := range []api.Params{{K: 1, N: 1, Chunk: 1}, {K: 3, N: 9, Chunk: 2}, {K: 128, N: 128, Chunk: 65536}} {
		for _, index := range []int{0, p.K - 1, p.N - 1} {
			d := drafted(nil, p, index)
			if len(d.bytes()) != 32+4+8+4 {
				t.Fatalf("a shard of no blobs has %d bytes", len(d.bytes()))
			}
			checkTaken(t, "no blobs", d.bytes(), api.Shard{K: p.K, N: p.N, Index: index, Chunk: p.Chunk})
		}
	}
}

func TestP7BlobsOfNoBytes(t *testing.T) {
	p := api.Params{K: 2, N: 4, Chunk: 3}
	for index := range p.N {
		d := drafted([]api.Blob{blob("b", ""), blob("a", ""), blob("ab", "")}, p, index)
		checkTaken(t, "L is 0", d.bytes(), api.Shard{K: 2, N: 4, Index: index, Chunk: 3, Names: []string{"a", "ab", "b"}, Sizes: []int{0, 0, 0}})
	}
}

// checkArchive parses all shards of an archive.
func checkArchive(t *testing.T, what string, blobs []api.Blob, p api.Params) {
	t.Helper()
	var names []string
	var sizes []int
	var data []byte
	for _, b := range sortedByName(blobs) {
		names, sizes, data = append(names, b.Name), append(sizes, len(b.Data)), append(data, b.Data...)
	}
	first := wantFirst(data, p.K)
	for i, b := range wantShards(blobs, p) {
		checkTaken(t, what, b, api.Shard{K: p.K, N: p.N, Index: i, Chunk: p.Chunk, Names: names, Sizes: sizes, Column: wantColumn(first, i)})
	}
}

func TestP7AnyArchives(t *testing.T) {
	anyArchives(func(what string, blobs []api.Blob, p api.Params) { checkArchive(t, what, blobs, p) })
}

// The place of a missing byte is behind the last that is there, wherever that is.
func TestP7BytesThatEndAtEachPlace(t *testing.T) {
	for _, d := range []draft{
		example(),
		drafted(nil, api.Params{K: 1, N: 1, Chunk: 1}, 0),
		drafted([]api.Blob{blob("b", "some data"), blob("a", ""), blob("abc", "more")}, api.Params{K: 2, N: 3, Chunk: 3}, 2),
		drafted([]api.Blob{blob("b", "some data")}, api.Params{K: 1, N: 1, Chunk: 65536}, 0),
		drafted([]api.Blob{blob("b", "some data")}, api.Params{K: 4, N: 5, Chunk: 2}, 3),
	} {
		b := d.bytes()
		for end := range b {
			checkFault(t, "ends at "+strconv.Itoa(end), b[:end:end], api.ErrShort, end)
			checkFault(t, "ends at "+strconv.Itoa(end)+", more behind it in memory", b[:end], api.ErrShort, end)
		}
	}
}

func TestP7HeadWord(t *testing.T) {
	b := example().bytes()
	for place := range 6 {
		for _, change := range []byte{1, 32, 255} {
			spoilt := bytes.Clone(b)
			spoilt[place] ^= change
			for end := place + 1; end <= len(spoilt); end++ {
				checkFault(t, "another word", spoilt[:end], api.ErrMagic, place)
			}
			spoilt[5] ^= 7
			checkFault(t, "another word, two bytes", spoilt, api.ErrMagic, place)
			d := example().with(place, b[place]^change)
			checkFault(t, "another word, the sum its own", d.bytes(), api.ErrMagic, place)
		}
	}
	checkFault(t, "a word too early", []byte("DONE"), api.ErrMagic, 0)
	checkFault(t, "the word alone", []byte("CAIRN1"), api.ErrShort, 6)
	checkFault(t, "another number", []byte("CAIRN2"), api.ErrMagic, 5)
	checkFault(t, "a nought ahead", append([]byte{0}, b...), api.ErrMagic, 0)
}

// checkSum changes each bit of a piece of a shard, and of its sum, which is at end.
func checkSum(t *testing.T, b []byte, begin int, end int) {
	t.Helper()
	for place := begin; place < end+8; place++ {
		for bit := range 8 {
			spoilt := bytes.Clone(b)
			spoilt[place] ^= 1 << bit
			what := "byte " + strconv.Itoa(place) + " changed"
			checkFault(t, what, spoilt, api.ErrSum, end)
			checkFault(t, "nothing behind, "+what, spoilt[:end+8], api.ErrSum, end)
			checkFault(t, "cut, "+what, spoilt[:end+7], api.ErrShort, end+7)
		}
	}
}

func TestP7HeadSum(t *testing.T) {
	checkSum(t, example().bytes(), 6, 24)
}

func TestP7HeadNumbers(t *testing.T) {
	d := example()
	for _, c := range []struct {
		what  string
		d     draft
		place int
	}{
		{"k 0", d.with(6, 0), 6}, {"k 129", d.with(6, 129).with(7, 129), 6}, {"k 255", d.with(6, 255).with(7, 255), 6},
		{"n below k", d.with(7, 1), 7}, {"n 0", d.with(7, 0), 7}, {"n 129", d.with(7, 129), 7}, {"n 255", d.with(7, 255), 7},
		{"i is n", d.with(8, 3), 8}, {"i above n", d.with(8, 4), 8}, {"i 255", d.with(8, 255), 8}, {"i is n, 128", d.with(7, 128).with(8, 128), 8},
		{"the nought 1", d.with(9, 1), 9}, {"the nought 128", d.with(9, 128), 9},
		{"C 0", d.said(10, 0), 10}, {"C 65537", d.said(10, 65537), 10}, {"C 2^31", d.said(10, 1<<31), 10}, {"C 2^32 - 1", d.said(10, 1<<32-1), 10}, {"C with a high byte", d.with(13, 1), 10},
		{"M 0", d.said(14, 0), 14}, {"M 3", d.said(14, 3), 14}, {"M 300001", d.said(14, 300001), 14}, {"M 2^31", d.said(14, 1<<31), 14}, {"M 2^32 - 1", d.said(14, 1<<32-1), 14}, {"M with a high byte", d.with(17, 1), 14},
		{"L 65537", d.said(18, 65537), 18}, {"L 2^31", d.said(18, 1<<31), 18}, {"L 2^32 - 1", d.said(18, 1<<32-1), 18}, {"L with a high byte", d.with(21, 1), 18},
		{"the noughts 1, 0", d.with(22, 1), 22}, {"the noughts 0, 1", d.with(23, 1), 22}, {"the noughts 0, 128", d.with(23, 128), 22},
	} {
		checkFault(t, c.what, c.d.bytes(), api.ErrParams, c.place)
		checkFault(t, c.what+", the head alone", c.d.bytes()[:32], api.ErrParams, c.place)
	}
}

// What may just be is not the head's fault: what comes next is missing.
func TestP7HeadNumbersAtTheirEdges(t *testing.T) {
	d := example()
	for _, c := range []struct {
		what string
		d    draft
	}{
		{"k 1", d.with(6, 1)}, {"k 128", d.with(6, 128).with(7, 128)}, {"n is k", d.with(7, 2)}, {"n 128", d.with(7, 128)},
		{"i 0", d.with(8, 0)}, {"i is n less one", d.with(8, 2)}, {"i 127", d.with(7, 128).with(8, 127)}, {"k, n and i least", d.with(6, 1).with(7, 1).with(8, 0)},
		{"C 1", d.said(10, 1)}, {"C 65536", d.said(10, 65536)}, {"M 4", d.said(14, 4)}, {"M 300000", d.said(14, 300000)}, {"L 0", d.said(18, 0)}, {"L 65536", d.said(18, 65536)},
	} {
		checkFault(t, c.what, c.d.bytes()[:32], api.ErrShort, 32)
	}
}

func TestP7HeadFaultNamedFirst(t *testing.T) {
	spoil := []struct {
		place int
		by    func(draft) draft
	}{
		{6, func(d draft) draft { return d.with(6, 0) }},
		{7, func(d draft) draft { return d.with(7, 129) }},
		{8, func(d draft) draft { return d.with(8, 200) }},
		{9, func(d draft) draft { return d.with(9, 9) }},
		{10, func(d draft) draft { return d.said(10, 0) }},
		{14, func(d draft) draft { return d.said(14, 3) }},
		{18, func(d draft) draft { return d.said(18, 1<<20) }},
		{22, func(d draft) draft { return d.with(22, 1) }},
	}
	for i, first := range spoil {
		for _, second := range spoil[i+1:] {
			d := second.by(first.by(example()))
			checkFault(t, "two numbers of the head", d.bytes(), api.ErrParams, first.place)
			all := d.bytes()
			all[31] ^= 1
			checkFault(t, "two numbers and the sum of the head", all, api.ErrSum, 24)
			all[0] ^= 1
			checkFault(t, "two numbers, the sum and the word of the head", all, api.ErrMagic, 0)
		}
	}
}

func TestP7ManifestSum(t *testing.T) {
	checkSum(t, example().bytes(), 32, 43)
}

// written is a manifest that says how many blobs it has, and then these entries.
func written(count int, entries ...string) []byte {
	return append(binary.LittleEndian.AppendUint32(nil, uint32(count)), strings.Join(entries, "")...)
}

func entry(name string, size int) string {
	b := binary.LittleEndian.AppendUint16(nil, uint16(len(name)))
	return string(binary.LittleEndian.AppendUint32(append(b, name...), uint32(size)))
}

func TestP7ManifestFaults(t *testing.T) {
	long := strings.Repeat("x", 255)
	for _, c := range []struct {
		what     string
		manifest []byte
		place    int
	}{
		{"1001 blobs", written(1001), 32},
		{"1001 blobs, some there", written(1001, entry("a", 0), entry("b", 0)), 32},
		{"2^32 - 1 blobs", written(1<<32 - 1), 32},
		{"2^31 blobs", written(1 << 31), 32},
		{"1000 blobs, none there", written(1000), 36},
		{"a blob that is not there", written(1), 36},
		{"a length cut", written(1, "\x01"), 36},
		{"a length alone", written(1, "\x01\x00"), 36},
		{"a name without its size", written(1, "\x01\x00a"), 36},
		{"a size cut", written(1, entry("a", 0)[:6]), 36},
		{"a name of 0", written(1, entry("", 0)), 36},
		{"a name of 0 and more", written(1, entry("", 0), "more"), 36},
		{"a name of 256", written(1, entry(long+"x", 0)), 36},
		{"a name of 257", written(1, entry(long+"xx", 0)), 36},
		{"a name of 65535", written(1, entry(strings.Repeat("x", 65535), 0)), 36},
		{"a name that says 256 and has 1", written(1, "\x00\x01a\x00\x00\x00\x00"), 36},
		{"a name that says 2 and has 1", written(1, "\x02\x00a\x00\x00\x00\x00"), 36},
		{"a name of 255, one byte too short", written(1, entry(long, 0)[:260]), 36},
		{"a second blob that is not there", written(2, entry("a", 0)), 43},
		{"a second length cut", written(2, entry("a", 0), "\x01"), 43},
		{"a second size cut", written(2, entry("a", 0), entry("b", 0)[:6]), 43},
		{"a second name of 0", written(2, entry("a", 0), entry("", 0)), 43},
		{"a second name of 256", written(2, entry("a", 0), entry(long+"y", 0)), 43},
		{"a name twice", written(2, entry("a", 0), entry("a", 0)), 45},
		{"names the wrong way round", written(2, entry("b", 0), entry("a", 0)), 45},
		{"a name behind one that it begins", written(2, entry("ab", 0), entry("a", 0)), 46},
		{"a name of high bytes ahead of one of low bytes", written(2, entry("\x80", 0), entry("\x7f", 0)), 45},
		{"a third name that is the first", written(3, entry("a", 0), entry("b", 0), entry("a", 0)), 52},
		{"a third name that is the second", written(3, entry("a", 0), entry("b", 0), entry("b", 0)), 52},
		{"a size of 65537", written(1, entry("a", 65537)), 39},
		{"a size of 2^31", written(1, entry("a", 1<<31)), 39},
		{"a size of 2^32 - 1", written(1, entry("a", 1<<32-1)), 39},
		{"a size of 65537, the name long", written(1, entry(long, 65537)), 36 + 2 + 255},
		{"sizes of 65536 and 1", written(2, entry("a", 65536), entry("b", 1)), 46},
		{"sizes of 1, 65535 and 1", written(3, entry("a", 1), entry("b", 65535), entry("c", 1)), 53},
		{"sizes that would be 0 in 32 bits", written(2, entry("a", 1), entry("b", 1<<32-1)), 46},
		{"a byte behind no blobs", written(0, "\x00"), 36},
		{"a blob behind no blobs", written(0, entry("a", 0)), 36},
		{"a byte behind a blob", written(1, entry("a", 0), "\x00"), 43},
		{"a blob behind a blob", written(1, entry("a", 0), entry("b", 0)), 43},
		{"300000 bytes", written(0, strings.Repeat("\x00", 300000-4)), 36},
	} {
		b := listed(c.manifest).bytes()
		checkFault(t, c.what, b, api.ErrManifest, c.place)
		checkFault(t, c.what+", no tail", b[:len(b)-4], api.ErrManifest, c.place)
		checkFault(t, c.what+", cut", b[:len(b)-5], api.ErrShort, len(b)-5)
		checkLikeWant(t, c.what, b)
	}
}

// The manifest ends just behind its last blob, or one byte ahead of that, or behind it.
func TestP7ManifestAtItsEdges(t *testing.T) {
	long := strings.Repeat("x", 255)
	for _, c := range []struct {
		names []string
		sizes []int
	}{
		{nil, nil}, {[]string{"a"}, []int{0}}, {[]string{"a"}, []int{7}}, {[]string{long}, []int{65536}}, {[]string{"a", "b"}, []int{65535, 1}}, {[]string{"a", "a\x00", "b"}, []int{1, 2, 3}},
		{[]string{"\x7f", "\x80", "\xff"}, []int{0, 65536, 0}},
	} {
		want := api.Shard{K: 1, N: 1, Chunk: 65536, Names: c.names, Sizes: c.sizes}
		var entries []string
		for i, name := range c.names {
			entries = append(entries, entry(name, c.sizes[i]))
			want.Column = append(want.Column, make([]byte, c.sizes[i])...)
		}
		d := listed(written(len(c.names), entries...)).said(10, 65536).said(18, uint32(len(want.Column)))
		end := 32 + len(d.manifest)
		if len(want.Column) > 0 {
			d.frames = [][]byte{want.Column}
		}
		checkTaken(t, "just so", d.bytes(), want)
		checkFault(t, "one byte behind", d.listing(append(d.manifest, 0)).bytes(), api.ErrManifest, end)
		if len(c.names) > 0 {
			last := entries[len(entries)-1]
			checkFault(t, "one byte ahead", d.listing(d.manifest[:len(d.manifest)-1]).bytes(), api.ErrManifest, end-len(last))
		}
	}
}

func TestP7ManyBlobs(t *testing.T) {
	entries := make([]string, 1001)
	for i := range entries {
		entries[i] = entry(strconv.Itoa(10000+i), 0)
	}
	s, errno, place := cairn.Parse(listed(written(1000, entries[:1000]...)).bytes())
	if errno != api.OK || place != 0 || len(s.Names) != 1000 || len(s.Sizes) != 1000 || s.Names[999] != "10999" {
		t.Errorf("P7: 1000 blobs: %d names, %d at %d", len(s.Names), errno, place)
	}
	checkFault(t, "1001 blobs", listed(written(1001, entries...)).bytes(), api.ErrManifest, 32)
	checkFault(t, "1001 blobs that say 1000", listed(written(1000, entries...)).bytes(), api.ErrManifest, 36+1000*11)
	checkFault(t, "999 blobs that say 1000", listed(written(1000, entries[:999]...)).bytes(), api.ErrManifest, 36+999*11)
}

func TestP7LengthOfColumns(t *testing.T) {
	for k := 1; k <= 5; k++ {
		for size := range 12 {
			p := api.Params{K: k, N: 5, Chunk: 4}
			d := drafted([]api.Blob{blob("a", "eleven bytes"[:size])}, p, 4)
			right := binary.LittleEndian.Uint32(d.head[18:])
			for length := range uint32(14) {
				if length != right {
					checkFault(t, "another L", d.said(18, length).bytes(), api.ErrManifest, 18)
					checkFault(t, "another L, no frame", d.said(18, length).bytes()[:32+11+8], api.ErrManifest, 18)
				}
			}
			checkFault(t, "L 65536", d.said(18, 65536).bytes(), api.ErrManifest, 18)
		}
	}
}

func TestP7ManifestFaultNamedFirst(t *testing.T) {
	bad := entry("", 0)
	great := entry("a", 70000)
	for _, c := range []struct {
		what     string
		manifest []byte
		place    int
	}{
		{"too many ahead of all", written(1001, bad, great), 32},
		{"a length ahead of a later name", written(3, entry("b", 0), bad, entry("a", 0)), 43},
		{"a name ahead of its size", written(2, entry("a", 0), great), 45},
		{"a size ahead of a later length", written(2, great, bad), 39},
		{"a size ahead of a later name", written(2, great, entry("a", 0)), 39},
		{"a name ahead of a later length", written(3, entry("b", 0), entry("a", 0), bad), 45},
		{"a size ahead of bytes behind", written(1, great, "\x00"), 39},
		{"bytes behind ahead of L", written(1, entry("a", 9), "\x00"), 43},
		{"a blob that is not there ahead of L", written(2, entry("a", 9)), 43},
	} {
		b := listed(c.manifest).bytes()
		checkFault(t, c.what, b, api.ErrManifest, c.place)
		end := 32 + len(c.manifest)
		b[end+7] ^= 128
		checkFault(t, "a sum ahead of the rest: "+c.what, b, api.ErrSum, end)
		checkFault(t, "an end ahead of the rest: "+c.what, b[:end+7], api.ErrShort, end+7)
	}
	d := example().said(18, 1)
	d.frames, d.tail = [][]byte{{9}, {9}}, "none"
	checkFault(t, "L ahead of the frames", d.bytes(), api.ErrManifest, 18)
}

func TestP7FrameSums(t *testing.T) {
	for index := range 3 {
		b := drafted([]api.Blob{blob("a", "twenty bytes of data")}, api.Params{K: 2, N: 3, Chunk: 4}, index).bytes()
		checkSum(t, b, 51, 55)
		checkSum(t, b, 63, 67)
		checkSum(t, b, 75, 77)
	}
}

// A frame of another length than it must have is known by its sum.
func TestP7FramesOfOtherLengths(t *testing.T) {
	d := drafted([]api.Blob{blob("a", "twenty bytes of data")}, api.Params{K: 2, N: 3, Chunk: 4}, 0)
	d.frames = [][]byte{[]byte("twe"), []byte("nty "), []byte("byt")}
	checkFault(t, "a first frame of 3", d.bytes(), api.ErrSum, 51+4)
	d.frames = [][]byte{[]byte("twen"), []byte("ty byt")}
	checkFault(t, "a last frame of 6", d.bytes(), api.ErrSum, 51+12+4)
	d.frames = [][]byte{[]byte("twen"), []byte("ty b"), []byte("yt"), []byte("es")}
	checkFault(t, "a frame too many", d.bytes(), api.ErrMagic, 51+12+12+10)
	d.frames = [][]byte{[]byte("twen"), []byte("ty b")}
	checkFault(t, "a frame too few", d.bytes(), api.ErrShort, 51+12+12+4)
	d.frames = [][]byte{[]byte("twen"), []byte("ty b"), []byte("yt"), {}}
	checkFault(t, "a frame of no bytes", d.bytes(), api.ErrMagic, 51+12+12+10)
}

func TestP7LastFrames(t *testing.T) {
	for length, sizes := range map[int][]int{8: {4, 4}, 9: {4, 4, 1}, 4: {4}, 1: {1}, 5: {4, 1}, 7: {4, 3}} {
		data := "the data"[:min(8, length)] + strings.Repeat("!", max(0, length-8))
		d := drafted([]api.Blob{blob("a", data)}, api.Params{K: 1, N: 1, Chunk: 4}, 0)
		var got []int
		for _, f := range d.frames {
			got = append(got, len(f))
		}
		if !slices.Equal(got, sizes) {
			t.Fatalf("the frames have %v bytes, want %v", got, sizes)
		}
		checkTaken(t, "a last frame of "+strconv.Itoa(sizes[len(sizes)-1]), d.bytes(), api.Shard{K: 1, N: 1, Chunk: 4, Names: []string{"a"}, Sizes: []int{length}, Column: []byte(data)})
	}
}

// framePlace is where byte m of a column stands, behind a manifest of so many bytes.
func framePlace(manifest int, chunk int, m int) int {
	return 32 + manifest + 8 + m/chunk*(chunk+8) + m%chunk
}

// Each byte of each column is changed, with its sum: those that stand for none of the data are refused.
func TestP7BytesThatFillAColumnUp(t *testing.T) {
	for k := 1; k <= 6; k++ {
		for size := 1; size <= 13; size++ {
			for _, chunk := range []int{1, 2, 3, 65536} {
				p := api.Params{K: k, N: 7, Chunk: chunk}
				length := (size + k - 1) / k
				for index := range p.N {
					for m := range length {
						d := drafted([]api.Blob{blob("a", "thirteen more"[:size])}, p, index)
						d.frames[m/chunk][m%chunk] ^= 1
						if index < k && index*length+m >= size {
							checkFault(t, "what fills up is not 0", d.bytes(), api.ErrPad, framePlace(11, chunk, m))
						}
						checkLikeWant(t, "a byte of a column changed", d.bytes())
					}
				}
			}
		}
	}
}

func TestP7FrameFaultNamedFirst(t *testing.T) {
	// Column 2 has 3 bytes, of which the last stands for none of the data; its frames begin at 51 and 61, and the tail at 70.
	d := drafted([]api.Blob{blob("a", "12345678")}, api.Params{K: 3, N: 3, Chunk: 2}, 2)
	checkTaken(t, "filled up with 0", d.bytes(), api.Shard{K: 3, N: 3, Index: 2, Chunk: 2, Names: []string{"a"}, Sizes: []int{8}, Column: []byte{'7', '8', 0}})
	d.frames = [][]byte{{'7', '8'}, {1}}
	b := d.bytes()
	checkFault(t, "filled up with 1", b, api.ErrPad, 61)
	checkFault(t, "filled up with 1, no tail", b[:70], api.ErrPad, 61)
	checkFault(t, "an end ahead of what fills up", b[:69], api.ErrShort, 69)
	b[62] ^= 1
	checkFault(t, "a sum ahead of what fills up", b, api.ErrSum, 62)
	b[51] ^= 1
	checkFault(t, "a frame ahead of a later one", b, api.ErrSum, 53)

	d = drafted([]api.Blob{blob("a", "1234567")}, api.Params{K: 5, N: 6, Chunk: 1}, 4)
	d.frames = [][]byte{{3}, {4}}
	checkFault(t, "the first byte that is not 0", d.bytes(), api.ErrPad, 51)
	b = d.bytes()
	b[60] ^= 1
	checkFault(t, "what fills up ahead of a later frame's sum", b, api.ErrPad, 51)
	d.frames = [][]byte{{0}, {4}}
	checkFault(t, "the second byte is not 0", d.bytes(), api.ErrPad, 60)
	d.tail = "GONE"
	checkFault(t, "what fills up ahead of the tail", d.bytes(), api.ErrPad, 60)
}

func TestP7Tail(t *testing.T) {
	for _, d := range []draft{example(), drafted(nil, api.Params{K: 1, N: 1, Chunk: 1}, 0)} {
		b := d.bytes()
		begin := len(b) - 4
		for place := begin; place < len(b); place++ {
			spoilt := bytes.Clone(b)
			spoilt[place] ^= 32
			for end := place + 1; end <= len(b); end++ {
				checkFault(t, "another tail", spoilt[:end], api.ErrMagic, place)
			}
			spoilt[len(b)-1] ^= 1
			checkFault(t, "another tail, two bytes", spoilt, api.ErrMagic, place)
			checkFault(t, "another tail, and more", append(spoilt, 1, 2), api.ErrMagic, place)
		}
		for _, more := range []string{"\x00", "D", "DONE", string(b), strings.Repeat("x", 1000)} {
			checkFault(t, "more behind it", append(bytes.Clone(b), more...), api.ErrMore, len(b))
		}
	}
}

// spoil changes a draft, and what it gives, in a few places, with or without the sums.
func spoil(random *rand.Rand, d draft) []byte {
	change := func(b []byte) {
		if len(b) > 0 {
			b[random.Intn(len(b))] ^= byte(1) << random.Intn(8)
		}
	}
	d.head, d.manifest = bytes.Clone(d.head), bytes.Clone(d.manifest)
	for range random.Intn(3) {
		switch random.Intn(6) {
		case 0:
			change(d.head[6:])
		case 1, 2:
			change(d.manifest)
		case 3:
			if len(d.frames) > 0 {
				change(d.frames[random.Intn(len(d.frames))])
			}
		case 4:
			d = d.listing(append(d.manifest, make([]byte, random.Intn(8))...))
		case 5:
			d = d.listing(d.manifest[:4+random.Intn(len(d.manifest)-3)])
		}
	}
	b := d.bytes()
	for range random.Intn(2) {
		change(b)
	}
	if random.Intn(3) == 0 {
		b = b[:random.Intn(len(b)+1)]
	}
	return append(b, make([]byte, random.Intn(20)/18)...)
}

func randomDraft(random *rand.Rand) draft {
	n := 1 + random.Intn(6)
	p := api.Params{K: 1 + random.Intn(n), N: n, Chunk: 1 + random.Intn(6)}
	return drafted(randomBlobs(random, random.Intn(5), 9), p, random.Intn(n))
}

func TestP7SpoiltShards(t *testing.T) {
	random := rand.New(rand.NewSource(32))
	seen := make(map[api.Errno]int)
	for range 30000 {
		b := spoil(random, randomDraft(random))
		_, errno, _ := wantParse(b)
		seen[errno]++
		checkLikeWant(t, "a spoilt shard", b)
	}
	for _, errno := range []api.Errno{api.OK, api.ErrParams, api.ErrShort, api.ErrMagic, api.ErrSum, api.ErrManifest, api.ErrPad, api.ErrMore} {
		if seen[errno] < 20 {
			t.Errorf("only %d spoilt shards are %d", seen[errno], errno)
		}
	}
}
