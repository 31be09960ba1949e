// Package sum: the sum of 64 bits by which a shard is known to be whole.
package sum

// fourSteps has, for each value of the lowest 4 bits, what 4 steps make of it: each shifts right by one, and exclusive-ors C96C5795D7870F42 if a 1 fell out.
// Its table is short enough to be written out, so that the sum of a byte or two doesn't wait for one to be made.
var fourSteps = [16]uint64{
	0x0000000000000000, 0x7D9BA13851336649, 0xFB374270A266CC92, 0x86ACE348F355AADB,
	0x64B62BCAEBC387A1, 0x192D8AF2BAF0E1E8, 0x9F8169BA49A54B33, 0xE21AC88218962D7A,
	0xC96C5795D7870F42, 0xB4F7F6AD86B4690B, 0x325B15E575E1C3D0, 0x4FC0B4DD24D2A599,
	0xADDA7C5F3C4488E3, 0xD041DD676D77EEAA, 0x56ED3E2F9E224471, 0x2B769F17CF112238,
}

// Of gives the sum of some bytes.
func Of(data []byte) uint64 {
	state := ^uint64(0)
	for _, b := range data {
		state ^= uint64(b)
		state = state>>4 ^ fourSteps[state&15]
		state = state>>4 ^ fourSteps[state&15]
	}
	return ^state
}
