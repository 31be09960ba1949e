package archive

import (
	"errors"
	"math/rand"
	"slices"
	"testing"

	"cairn/api"
	"cairn/coding"
	"cairn/fault"
)

// someShards are all shards of an archive with K 2, N 4 and one blob of this data.
func someShards(data string) []api.Shard {
	var shards []api.Shard
	for i, column := range coding.Columns(2, 4, []byte(data)) {
		shards = append(shards, api.Shard{K: 2, N: 4, Index: i, Chunk: 1, Names: []string{"a"}, Sizes: []int{len(data)}, Column: column})
	}
	return shards
}

func TestByIndex(t *testing.T) {
	random := rand.New(rand.NewSource(80))
	for count := range 30 {
		var shards []api.Shard
		var want []int
		for range count {
			i := random.Intn(20)
			shards, want = append(shards, api.Shard{Index: i}), append(want, i)
		}
		slices.Sort(want)
		var got []int
		for _, s := range byIndex(shards) {
			got = append(got, s.Index)
		}
		if !slices.Equal(got, want) {
			t.Errorf("the indexes are %v, want %v", got, want)
		}
	}
}

// A fault is wrapped by what was looked at, and its place is that of a shard, by their indexes.
func TestWhatWasLookedAt(t *testing.T) {
	one, two, other := someShards("xyz"), someShards("xYz"), someShards("more")
	for _, c := range []struct {
		shards []api.Shard
		want   string
	}{
		{nil, "the shards: error 12 at place 0"},
		{[]api.Shard{one[3]}, "the shards: error 12 at place 1"},
		{[]api.Shard{one[3], other[2], one[1], one[0]}, "the shards: error 10 at place 2"},
		{[]api.Shard{one[3], one[1], one[3], one[0]}, "the shards: error 11 at place 3"},
		{[]api.Shard{two[3], one[1], one[0]}, "the columns: error 13 at place 2"},
	} {
		blobs, err := Decode(c.shards)
		if err == nil || err.Error() != c.want || len(blobs) != 0 {
			t.Errorf("%v, %v, want %s", blobs, err, c.want)
		}
		var found *fault.Fault
		if !errors.As(err, &found) || errors.Is(err, fault.TooEarly) {
			t.Errorf("in %v there is %v", err, found)
		}
	}
}

func TestDecode(t *testing.T) {
	for _, data := range []string{"", "x", "xyz", "some data"} {
		blobs, err := Decode(someShards(data)[1:])
		if err != nil || len(blobs) != 1 || blobs[0].Name != "a" || string(blobs[0].Data) != data {
			t.Errorf("%v, %v, want a blob of %q", blobs, err, data)
		}
	}
}
