package cairn_test

import (
	"bytes"
	"math/rand"
	"strconv"
	"testing"

	"cairn/api"
	"cairn/cairn"
)

// feedCheck feeds a Reader with a part, which ends what has come up to now, and holds the answer against Parse's.
func feedCheck(t *testing.T, r *cairn.Reader, part []byte, all []byte) {
	t.Helper()
	_, wantErrno, wantPlace := wantParse(all)
	if wantErrno == api.ErrShort {
		wantErrno, wantPlace = api.OK, 0
	}
	if errno, place := r.Feed(part); errno != wantErrno || place != wantPlace {
		t.Fatalf("P9: Feed of %d bytes, %d in all: %d at %d, want %d at %d", len(part), len(all), errno, place, wantErrno, wantPlace)
	}
}

// finishCheck holds what Finish tells against what Parse tells of all bytes, and looks that the Reader is closed then.
func finishCheck(t *testing.T, r *cairn.Reader, all []byte) {
	t.Helper()
	want, wantErrno, wantPlace := wantParse(all)
	if got, errno, place := r.Finish(); errno != wantErrno || place != wantPlace || !sameShard(got, want) {
		t.Fatalf("P9: Finish behind %d bytes: %d at %d, want %d at %d", len(all), errno, place, wantErrno, wantPlace)
	}
	checkClosed(t, "behind Finish", r)
}

func checkClosed(t *testing.T, what string, r *cairn.Reader) {
	t.Helper()
	for range 2 {
		for _, part := range [][]byte{nil, {}, []byte("C"), []byte("x"), example().bytes()} {
			if errno, place := r.Feed(part); errno != api.ErrClosed || place != 0 {
				t.Fatalf("P9: %s: Feed of %d bytes: %d at %d", what, len(part), errno, place)
			}
		}
		if s, errno, place := r.Finish(); errno != api.ErrClosed || place != 0 || !sameShard(s, api.Shard{}) {
			t.Fatalf("P9: %s: Finish: %+v, %d at %d", what, s, errno, place)
		}
	}
}

// feedAll feeds a new Reader with bytes in parts of these lengths, in turn.
func feedAll(t *testing.T, b []byte, lengths ...int) {
	t.Helper()
	r := cairn.NewReader()
	at := 0
	for i := 0; at < len(b); i++ {
		end := min(len(b), at+lengths[i%len(lengths)])
		feedCheck(t, r, b[at:end], b[:end])
		at = end
	}
	finishCheck(t, r, b)
}

func TestP9Example(t *testing.T) {
	r := cairn.NewReader()
	for _, c := range []struct {
		part  string
		errno api.Errno
		place int
	}{{"CA", api.OK, 0}, {"X", api.ErrMagic, 2}, {"IRN1", api.ErrMagic, 2}, {"", api.ErrMagic, 2}, {string(example().bytes()), api.ErrMagic, 2}} {
		if errno, place := r.Feed([]byte(c.part)); errno != c.errno || place != c.place {
			t.Errorf("P9: Feed(%q) = %d, %d, want %d, %d", c.part, errno, place, c.errno, c.place)
		}
	}
	if s, errno, place := r.Finish(); errno != api.ErrMagic || place != 2 || !sameShard(s, api.Shard{}) {
		t.Errorf("P9: Finish = %+v, %d, %d", s, errno, place)
	}
	checkClosed(t, "behind Finish", r)
}

func readerDrafts() []draft {
	return []draft{
		example(),
		drafted(nil, api.Params{K: 1, N: 1, Chunk: 1}, 0),
		drafted([]api.Blob{blob("b", "some data"), blob("a", ""), blob("abc", "more")}, api.Params{K: 2, N: 3, Chunk: 3}, 2),
		drafted([]api.Blob{blob("b", "some data")}, api.Params{K: 1, N: 1, Chunk: 65536}, 0),
	}
}

func TestP9CutAnywhere(t *testing.T) {
	for _, d := range readerDrafts() {
		b := d.bytes()
		for cut := range len(b) + 1 {
			r := cairn.NewReader()
			feedCheck(t, r, b[:cut], b[:cut])
			feedCheck(t, r, b[cut:], b)
			finishCheck(t, r, b)
		}
		for length := 1; length <= len(b)+1; length++ {
			feedAll(t, b, length)
		}
	}
}

func TestP9CutInThree(t *testing.T) {
	b := example().bytes()
	for first := range len(b) + 1 {
		for second := first; second <= len(b); second++ {
			r := cairn.NewReader()
			r.Feed(b[:first])
			r.Feed(b[first:second])
			feedCheck(t, r, b[second:], b)
			finishCheck(t, r, b)
		}
	}
}

func TestP9FinishAtEachPlace(t *testing.T) {
	for _, d := range readerDrafts() {
		b := d.bytes()
		for end := range len(b) + 1 {
			feedAll(t, b[:end], len(b))
			feedAll(t, b[:end], 5)
		}
	}
}

func TestP9NothingFed(t *testing.T) {
	finishCheck(t, cairn.NewReader(), nil)
	r := cairn.NewReader()
	feedCheck(t, r, nil, nil)
	feedCheck(t, r, []byte{}, nil)
	finishCheck(t, r, nil)
}

func TestP9PartsOfNoBytes(t *testing.T) {
	for _, d := range readerDrafts() {
		b := append(d.bytes(), 'x')
		r := cairn.NewReader()
		for i := range b {
			feedCheck(t, r, nil, b[:i])
			feedCheck(t, r, []byte{}, b[:i])
			feedCheck(t, r, b[i:i+1], b[:i+1])
		}
		feedCheck(t, r, nil, b)
		finishCheck(t, r, b)
	}
}

// A whole shard is OK, until something comes behind it.
func TestP9MoreBehindAShard(t *testing.T) {
	b := example().bytes()
	r := cairn.NewReader()
	for _, c := range []struct {
		part  string
		errno api.Errno
		place int
	}{{string(b), api.OK, 0}, {"", api.OK, 0}, {"x", api.ErrMore, 73}, {"", api.ErrMore, 73}, {"yz", api.ErrMore, 73}} {
		if errno, place := r.Feed([]byte(c.part)); errno != c.errno || place != c.place {
			t.Errorf("P9: Feed(%q) = %d, %d, want %d, %d", c.part, errno, place, c.errno, c.place)
		}
	}
	finishCheck(t, r, append(b, "xyz"...))
}

// Each bit of a shard is changed: the error comes with the byte that shows it, and stays.
func TestP9ErrorsStay(t *testing.T) {
	for _, d := range readerDrafts()[:3] {
		b := append(d.bytes(), "more"...)
		for place := range b {
			for _, change := range []byte{1, 128} {
				spoilt := bytes.Clone(b)
				spoilt[place] ^= change
				feedAll(t, spoilt, 1)
				feedAll(t, spoilt, 7, 0, 3)
				feedAll(t, spoilt, len(b))
			}
		}
	}
}

func TestP9SpoiltShards(t *testing.T) {
	random := rand.New(rand.NewSource(50))
	for range 3000 {
		b := spoil(random, randomDraft(random))
		feedAll(t, append(b, "more"[:random.Intn(5)]...), random.Intn(3), 1+random.Intn(40), random.Intn(9))
	}
}

// A Reader that went through all bytes again with each that comes would not end in time.
func TestP9ManyBytesOneByOne(t *testing.T) {
	blobs := numbered(1000, 255)
	blobs[0].Data = make([]byte, 60000)
	rand.New(rand.NewSource(51)).Read(blobs[0].Data)
	for _, chunk := range []int{1, 65536} {
		b := wantShards(blobs, api.Params{K: 1, N: 1, Chunk: chunk})[0]
		r := cairn.NewReader()
		for i := range b {
			if errno, place := r.Feed(b[i : i+1]); errno != api.OK || place != 0 {
				t.Fatalf("P9: byte %d of %d: %d at %d", i, len(b), errno, place)
			}
		}
		finishCheck(t, r, b)
		r = cairn.NewReader()
		r.Feed([]byte("x"))
		for range 1 << 20 {
			if errno, place := r.Feed(b); errno != api.ErrMagic || place != 0 {
				t.Fatalf("P9: behind an error: %d at %d", errno, place)
			}
		}
	}
}

func TestP9NotMadeByNewReader(t *testing.T) {
	checkClosed(t, "nil", nil)
	checkClosed(t, "a Reader of its own", &cairn.Reader{})
	checkClosed(t, "a new one", new(cairn.Reader))
	var r cairn.Reader
	checkClosed(t, "a variable", &r)
}

// A copy of a Reader was not made by NewReader, and the Reader knows nothing of it.
func TestP9CopiesAreClosed(t *testing.T) {
	b := example().bytes()
	r := cairn.NewReader()
	r.Feed(b[:40])
	c := *r
	checkClosed(t, "a copy", &c)
	feedCheck(t, r, b[40:], b)
	finishCheck(t, r, b)
	checkClosed(t, "a copy, behind Finish", &c)
}

func TestP2ReadersKnowNothingOfEachOther(t *testing.T) {
	random := rand.New(rand.NewSource(52))
	var texts [][]byte
	var readers []*cairn.Reader
	for range 20 {
		texts = append(texts, spoil(random, randomDraft(random)))
		readers = append(readers, cairn.NewReader())
	}
	fed := make([]int, len(texts))
	for range 2000 {
		i := random.Intn(len(texts))
		end := min(len(texts[i]), fed[i]+random.Intn(9))
		feedCheck(t, readers[i], texts[i][fed[i]:end], texts[i][:end])
		fed[i] = end
	}
	for i, r := range readers {
		finishCheck(t, r, texts[i][:fed[i]])
	}
}

// Behind a closed Reader another begins anew.
func TestP9AnotherReader(t *testing.T) {
	for i := range 3 {
		b := drafted([]api.Blob{blob("a", strconv.Itoa(i))}, api.Params{K: 1, N: 3, Chunk: 2}, i).bytes()
		feedAll(t, b, 4)
		feedAll(t, b[:50], 4)
	}
}

func TestP2ReaderLeavesAndForgetsItsParts(t *testing.T) {
	for _, length := range []int{1, 3, 7, 40, 1000} {
		b := drafted([]api.Blob{blob("b", "some data"), blob("a", ""), blob("abc", "more")}, api.Params{K: 2, N: 3, Chunk: 3}, 1).bytes()
		r := cairn.NewReader()
		for at := 0; at < len(b); at += length {
			part, whole := roomy(b[at:min(len(b), at+length)])
			before := bytes.Clone(whole)
			r.Feed(part)
			if !bytes.Equal(whole, before) {
				t.Fatalf("P2: Feed wrote into its part, or beside it")
			}
			scribble(whole, 7)
		}
		finishCheck(t, r, b)
	}
}
