// Package field: bytes as polynomials over 0 and 1, modulo x^8 + x^4 + x^3 + x^2 + 1.
package field

// reduction is the modulus without its x^8, which falls out of a byte by itself.
const reduction = 0x1D

// Mul multiplies two bytes.
func Mul(a byte, b byte) byte {
	var product byte
	for range 8 {
		if b&1 == 1 {
			product ^= a
		}
		a = timesX(a)
		b >>= 1
	}
	return product
}

// Inv gives the inverse of a byte, and 0 for 0.
//
// The 255 bytes but 0 are a group, so a^254 is the inverse; and 254 is 2 + 4 + .. + 128.
func Inv(a byte) byte {
	power := a
	inverse := byte(1)
	for range 7 {
		power = Mul(power, power)
		inverse = Mul(inverse, power)
	}
	return inverse
}

// Scale multiplies each byte of a list by a factor, in place.
func Scale(list []byte, factor byte) {
	table := products(factor)
	for m, b := range list {
		list[m] = table[b]
	}
}

// AddTimes adds to each byte of a list the byte of another at its place, multiplied by a factor. The other is no longer than the list.
func AddTimes(list []byte, factor byte, other []byte) {
	if factor == 0 {
		return
	}
	table := products(factor)
	for m, b := range other {
		list[m] ^= table[b]
	}
}

// products gives what each byte makes with a factor. Lists are long, so that one look a byte is worth a table for each of them.
func products(factor byte) [256]byte {
	var table [256]byte
	for bit := 1; bit < 256; bit *= 2 {
		for low := range bit {
			table[bit+low] = table[low] ^ factor
		}
		factor = timesX(factor)
	}
	return table
}

func timesX(a byte) byte {
	if a >= 128 {
		return a<<1 ^ reduction
	}
	return a << 1
}
