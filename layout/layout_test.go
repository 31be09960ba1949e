package layout

import (
	"bytes"
	"strings"
	"testing"

	"cairn/api"
)

func TestAppendNumber(t *testing.T) {
	got := appendNumber([]byte{9}, 0x0102030405060708, 8)
	if want := []byte{9, 8, 7, 6, 5, 4, 3, 2, 1}; !bytes.Equal(got, want) {
		t.Errorf("appendNumber = %v, want %v", got, want)
	}
	if got, want := appendNumber(nil, 65536, 4), []byte{0, 0, 1, 0}; !bytes.Equal(got, want) {
		t.Errorf("appendNumber = %v, want %v", got, want)
	}
}

func TestManifest(t *testing.T) {
	got := Manifest([]string{"a", "bc"}, []int{258, 0})
	want := []byte("\x02\x00\x00\x00\x01\x00a\x02\x01\x00\x00\x02\x00bc\x00\x00\x00\x00")
	if want = appendSum(want, want); !bytes.Equal(got, want) {
		t.Errorf("Manifest = % x, want % x", got, want)
	}
}

// A list that is made too short, or too long, would be copied or waste its room.
func TestRoomIsThatOfTheBytes(t *testing.T) {
	manifest := Manifest([]string{"a", "bc"}, []int{258, 0})
	if len(manifest) != cap(manifest) {
		t.Errorf("a manifest of %d bytes has room for %d", len(manifest), cap(manifest))
	}
	for _, length := range []int{0, 1, 4, 5, 8} {
		shard := Write(api.Shard{K: 1, N: 1, Chunk: 4, Column: make([]byte, length)}, manifest)
		if len(shard) != cap(shard) {
			t.Errorf("a shard of %d bytes has room for %d", len(shard), cap(shard))
		}
	}
}

func TestContentFits(t *testing.T) {
	for _, c := range []struct {
		sizes []int
		want  bool
	}{
		{nil, true},
		{[]int{0, 0}, true},
		{[]int{65536}, true},
		{[]int{65537}, false},
		{[]int{65536, 0, 1}, false},
		{[]int{1, 65535, 0}, true},
		{[]int{1 << 62, 1 << 62, 1 << 62, 1 << 62}, false},
	} {
		names := strings.Split(strings.Repeat("x", len(c.sizes)), "")
		if got := ContentFits(names, c.sizes); got != c.want {
			t.Errorf("ContentFits(%q, %v) = %v", names, c.sizes, got)
		}
	}
	if names := make([]string, 1000); !ContentFits(names, nil) || ContentFits(append(names, "x"), nil) {
		t.Errorf("1000 names do not fit, or 1001 do")
	}
}

// Names that fit never make a manifest too long; the limit is looked at by names that do not.
func TestContentFitsOfLongManifests(t *testing.T) {
	long := strings.Repeat("x", 300000-4-6)
	if !ContentFits([]string{long}, []int{0}) || ContentFits([]string{long + "x"}, []int{0}) {
		t.Errorf("a manifest of 300000 bytes does not fit, or one of 300001 does")
	}
}
