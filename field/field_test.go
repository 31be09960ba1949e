package field

import "testing"

// Mul and Inv are held against the document's words by the tests of package cairn; here the lists are held against Mul.

func allBytes() []byte {
	list := make([]byte, 256)
	for b := range list {
		list[b] = byte(b)
	}
	return list
}

func TestScaleByAllFactors(t *testing.T) {
	for factor := range 256 {
		list := allBytes()
		Scale(list, byte(factor))
		for b, got := range list {
			if want := Mul(byte(factor), byte(b)); got != want {
				t.Fatalf("%d scaled by %d is %d, want %d", b, factor, got, want)
			}
		}
	}
}

func TestAddTimesByAllFactors(t *testing.T) {
	other := allBytes()
	for factor := range 256 {
		list := make([]byte, len(other)+1)
		for m := range list {
			list[m] = byte(7*m + 3)
		}
		AddTimes(list, byte(factor), other)
		for m := range other {
			if want := byte(7*m+3) ^ Mul(byte(factor), other[m]); list[m] != want {
				t.Fatalf("factor %d, place %d: %d, want %d", factor, m, list[m], want)
			}
		}
		if behind := byte(7*len(other)%256 + 3); list[len(other)] != behind {
			t.Fatalf("factor %d: the byte behind the other list is %d, was %d", factor, list[len(other)], behind)
		}
	}
	if other[200] != 200 {
		t.Error("the other list was written into")
	}
}
