package sum

import (
	"math/rand"
	"testing"
)

// step is one step of the sum as the document says it.
func step(state uint64) uint64 {
	if state&1 == 1 {
		return state>>1 ^ 0xC96C5795D7870F42
	}
	return state >> 1
}

// byWords is the sum as the document says it.
func byWords(data []byte) uint64 {
	state := uint64(0xFFFFFFFFFFFFFFFF)
	for _, b := range data {
		state ^= uint64(b)
		for range 8 {
			state = step(state)
		}
	}
	return ^state
}

func TestFourSteps(t *testing.T) {
	for low, got := range fourSteps {
		if want := step(step(step(step(uint64(low))))); got != want {
			t.Errorf("fourSteps[%d] = %X, want %X", low, got, want)
		}
	}
}

func TestOfNothing(t *testing.T) {
	if Of(nil) != 0 || Of([]byte{}) != 0 {
		t.Errorf("the sum of nothing is %X, %X", Of(nil), Of([]byte{}))
	}
}

func TestOfEachByte(t *testing.T) {
	for b := range 256 {
		data := []byte{byte(b)}
		if got, want := Of(data), byWords(data); got != want {
			t.Errorf("Of(%d) = %X, want %X", b, got, want)
		}
	}
}

func TestOfSomeBytes(t *testing.T) {
	random := rand.New(rand.NewSource(3))
	for _, length := range []int{2, 3, 8, 9, 63, 64, 65, 1000, 65536} {
		data := make([]byte, length)
		random.Read(data)
		if got, want := Of(data), byWords(data); got != want {
			t.Errorf("Of %d bytes = %X, want %X", length, got, want)
		}
	}
}
