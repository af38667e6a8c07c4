// Package crc is layer 2: sums by which one sees that bytes were turned (shared/doc/02-crc.md).
package crc

// poly is what is put onto the register for each 1 that falls out of it.
const poly = 0xEDB88320

// Sum answers the CRC-32 of IEEE 802.3 of all parts, one behind the other.
func Sum(parts ...string) uint32 { return Add(0, parts...) }

// Add answers the Sum of bytes whose Sum is sum, with the parts behind them.
func Add(sum uint32, parts ...string) uint32 {
	// All bits are turned in the end of a sum: turned again, they are the register as it stood then.
	register := ^sum
	for _, part := range parts {
		for i := range len(part) {
			register = shift(register ^ uint32(part[i]))
		}
	}
	return ^register
}

// shift moves a register right by the eight bits of a byte.
func shift(register uint32) uint32 {
	for range 8 {
		out := register & 1
		register >>= 1
		if out == 1 {
			register ^= poly
		}
	}
	return register
}
