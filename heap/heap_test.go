package heap

import (
	"math/rand"
	"slices"
	"testing"
)

func pushAll(keys []int) *Heap[int, int] {
	var heap Heap[int, int]
	for _, key := range keys {
		heap.Push(key, key)
	}
	return &heap
}

func popAll(heap *Heap[int, int]) []int {
	var values []int
	for heap.Len() > 0 {
		values = append(values, heap.Pop())
	}
	return values
}

func TestLeastFirst(t *testing.T) {
	random := rand.New(rand.NewSource(1))
	for count := range 200 {
		keys := make([]int, count)
		for i := range keys {
			keys[i] = random.Intn(100) - 50
		}
		got := popAll(pushAll(keys))
		slices.Sort(keys)
		if !slices.Equal(got, keys) {
			t.Fatalf("%d keys come as %v, want %v", count, got, keys)
		}
	}
}

func TestKeysInOrderAndBackwards(t *testing.T) {
	var up, down []int
	for i := range 100 {
		up = append(up, i)
		down = append(down, 99-i)
	}
	for _, keys := range [][]int{up, down} {
		if got := popAll(pushAll(keys)); !slices.Equal(got, up) {
			t.Errorf("keys come as %v", got)
		}
	}
}

func TestInAndOutByTurns(t *testing.T) {
	random := rand.New(rand.NewSource(2))
	var heap Heap[int, int]
	var model []int
	for range 5000 {
		if len(model) > 0 && random.Intn(2) == 0 {
			least := slices.Min(model)
			if got := heap.Pop(); got != least {
				t.Fatalf("Pop = %d, want %d", got, least)
			}
			at := slices.Index(model, least)
			model = slices.Delete(model, at, at+1)
		} else {
			key := random.Intn(30)
			heap.Push(key, key)
			model = append(model, key)
		}
		if heap.Len() != len(model) {
			t.Fatalf("Len = %d, want %d", heap.Len(), len(model))
		}
	}
}

func TestValuesStayWithTheirKeys(t *testing.T) {
	var heap Heap[string, []int]
	for i, key := range []string{"b", "", "ab", "\xff", "a", "b"} {
		heap.Push(key, []int{i})
	}
	var got []int
	for range 4 {
		got = append(got, heap.Pop()...)
	}
	// The two of key b may come in either order.
	slices.Sort(got[3:])
	if last := heap.Pop(); last[0]+got[3] != 0+5 {
		t.Errorf("the values of key b are %d and %d", got[3], last[0])
	}
	if want := []int{1, 4, 2}; !slices.Equal(got[:3], want) || heap.Pop()[0] != 3 {
		t.Errorf("values come as %v, want %v", got[:3], want)
	}
}
