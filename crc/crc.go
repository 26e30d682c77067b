// Package crc: check sums: see DOC.md, chapter 1.
package crc

// polynomial is written reflected: its bit for x^31 is the lowest one.
const polynomial uint32 = 0xEDB88320

// Sum tells bytes' sum.
func Sum(b []byte) uint32 { return More(0, b) }

// More goes on with a sum.
func More(sum uint32, b []byte) uint32 {
	// A sum is the register turned over: turning it over again gives the
	// register as it stood behind the earlier bytes.
	c := ^sum
	for _, x := range b {
		c = shiftByte(c ^ uint32(x))
	}
	return ^c
}

// shiftByte goes bit by bit: a table of 256 words would be more than the
// language of the program allows at package level.
func shiftByte(c uint32) uint32 {
	for range 8 {
		if c&1 == 1 {
			c = c>>1 ^ polynomial
		} else {
			c >>= 1
		}
	}
	return c
}
