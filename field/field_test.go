package field

import "testing"

// byWords multiplies as the document says it: polynomials first, then the remainder.
func byWords(a byte, b byte) byte {
	product := 0
	for i := range 8 {
		if b>>i&1 == 1 {
			product ^= int(a) << i
		}
	}
	for i := 14; i >= 8; i-- {
		if product>>i&1 == 1 {
			product ^= 0b100011101 << (i - 8)
		}
	}
	return byte(product)
}

func TestMulOfAllBytes(t *testing.T) {
	for a := range 256 {
		for b := range 256 {
			if got, want := Mul(byte(a), byte(b)), byWords(byte(a), byte(b)); got != want {
				t.Fatalf("Mul(%d, %d) = %d, want %d", a, b, got, want)
			}
		}
	}
}

func TestInvOfAllBytes(t *testing.T) {
	if got := Inv(0); got != 0 {
		t.Errorf("Inv(0) = %d", got)
	}
	for a := 1; a < 256; a++ {
		if got := byWords(byte(a), Inv(byte(a))); got != 1 {
			t.Errorf("%d by its inverse %d is %d", a, Inv(byte(a)), got)
		}
	}
}

func allBytes() []byte {
	list := make([]byte, 256)
	for b := range list {
		list[b] = byte(b)
	}
	return list
}

func TestScaleByAllFactors(t *testing.T) {
	for factor := range 256 {
		list := allBytes()
		Scale(list, byte(factor))
		for b, got := range list {
			if want := byWords(byte(factor), byte(b)); got != want {
				t.Fatalf("%d scaled by %d is %d, want %d", b, factor, got, want)
			}
		}
	}
}

func TestAddTimesByAllFactors(t *testing.T) {
	other := allBytes()
	for factor := range 256 {
		list := make([]byte, len(other)+1)
		for m := range list {
			list[m] = byte(7*m + 3)
		}
		AddTimes(list, byte(factor), other)
		for m := range other {
			if want := byte(7*m+3) ^ byWords(byte(factor), other[m]); list[m] != want {
				t.Fatalf("factor %d, place %d: %d, want %d", factor, m, list[m], want)
			}
		}
		if behind := byte(7*len(other)%256 + 3); list[len(other)] != behind {
			t.Fatalf("factor %d: the byte behind the other list is %d, was %d", factor, list[len(other)], behind)
		}
	}
	if other[200] != 200 {
		t.Error("the other list was written into")
	}
}
