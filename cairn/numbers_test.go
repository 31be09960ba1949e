package cairn_test

import (
	"hash/crc64"
	"math/rand"
	"testing"

	"cairn/cairn"
)

// multiply is the document's multiplying, word by word: polynomials, then the remainder by x^8 + x^4 + x^3 + x^2 + 1.
func multiply(a byte, b byte) byte {
	product := 0
	for i := range 8 {
		if b>>i&1 == 1 {
			product ^= int(a) << i
		}
	}
	for i := 14; i >= 8; i-- {
		if product>>i&1 == 1 {
			product ^= 0b100011101 << (i - 8)
		}
	}
	return byte(product)
}

func TestP3MulExamples(t *testing.T) {
	for _, c := range [][3]byte{{2, 128, 29}, {3, 7, 9}, {0, 0, 0}, {0, 255, 0}, {255, 0, 0}, {1, 255, 255}, {255, 1, 255}} {
		if got := cairn.Mul(c[0], c[1]); got != c[2] {
			t.Errorf("P3: Mul(%d, %d) = %d, want %d", c[0], c[1], got, c[2])
		}
	}
}

func TestP3MulOfAllBytes(t *testing.T) {
	for a := range 256 {
		for b := range 256 {
			if got, want := cairn.Mul(byte(a), byte(b)), multiply(byte(a), byte(b)); got != want {
				t.Fatalf("P3: Mul(%d, %d) = %d, want %d", a, b, got, want)
			}
		}
	}
}

func TestP3Inv(t *testing.T) {
	for _, c := range [][2]byte{{0, 0}, {1, 1}, {2, 142}, {3, 244}, {142, 2}} {
		if got := cairn.Inv(c[0]); got != c[1] {
			t.Errorf("P3: Inv(%d) = %d, want %d", c[0], got, c[1])
		}
	}
	for a := 1; a < 256; a++ {
		if got := cairn.Inv(byte(a)); multiply(byte(a), got) != 1 {
			t.Errorf("P3: Inv(%d) = %d, which is no inverse", a, got)
		}
	}
}

func TestP3SumExamples(t *testing.T) {
	if got := cairn.Sum(nil); got != 0 {
		t.Errorf("P3: Sum of nil = %X", got)
	}
	if got := cairn.Sum([]byte{}); got != 0 {
		t.Errorf("P3: Sum of nothing = %X", got)
	}
	if got := cairn.Sum([]byte("123456789")); got != 0x995DC9BBDF1939FA {
		t.Errorf("P3: Sum of 123456789 = %X", got)
	}
}

// The sum of the document is the library's CRC-64 with the same constant.
func TestP3SumOfAnyBytes(t *testing.T) {
	random := rand.New(rand.NewSource(5))
	table := crc64.MakeTable(0xC96C5795D7870F42)
	for _, length := range []int{1, 2, 3, 4, 5, 6, 7, 8, 9, 15, 16, 17, 24, 255, 256, 257, 65536, 300000} {
		data := make([]byte, length)
		random.Read(data)
		if got, want := cairn.Sum(data), crc64.Checksum(data, table); got != want {
			t.Errorf("P3: Sum of %d bytes = %X, want %X", length, got, want)
		}
	}
	for _, fill := range []byte{0, 255} {
		data := []byte{fill, fill, fill}
		if got, want := cairn.Sum(data), crc64.Checksum(data, table); got != want {
			t.Errorf("P3: Sum(%v) = %X, want %X", data, got, want)
		}
	}
}
