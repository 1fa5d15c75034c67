// Package octet reads and lays numbers in bytes, and sums bytes as the Internet's headers do: see DOC.md, chapter 1.
package octet

const (
	mask16  = 0xffff
	allOnes = 0xffffffff
	divisor = 0xedb88320
)

// holds is asked ahead of every access. It never reckons at + n, which may go beyond what an int holds.
func holds(b []byte, at, n int) bool {
	return n >= 1 && n <= 8 && at >= 0 && at <= len(b)-n
}

// Get answers the number in the n bytes from at on, the highest byte first.
func Get(b []byte, at, n int) (uint64, bool) {
	if !holds(b, at, n) {
		return 0, false
	}
	var x uint64
	for _, c := range b[at : at+n] {
		x = x<<8 | uint64(c)
	}
	return x, true
}

// Put answers a copy of b with the lowest n bytes of x from at on, the highest byte first.
func Put(b []byte, at, n int, x uint64) ([]byte, bool) {
	if !holds(b, at, n) {
		return nil, false
	}
	out := make([]byte, len(b))
	copy(out, b)
	for i := at + n - 1; i >= at; i-- {
		out[i] = byte(x)
		x >>= 8
	}
	return out, true
}

// fold loops because one carry may make another.
func fold(x uint64) int {
	for x > mask16 {
		x = (x >> 16) + (x & mask16)
	}
	return int(x)
}

// Sum answers the sum, with its carries added in, of the words of 16 bits that all parts make together.
func Sum(parts ...[]byte) int {
	// 64 bits hold the sum of more bytes than may be given, so that the carries can wait till the end.
	var total uint64
	// The shift lives on from part to part: a word may begin in one and end in another.
	shift := 8
	for _, part := range parts {
		for _, c := range part {
			total += uint64(c) << shift
			shift = 8 - shift
		}
	}
	return fold(total)
}

// Check answers what a header carries as the sum of these parts.
func Check(parts ...[]byte) int { return turned(Sum(parts...)) }

// turned takes the lowest 16 bits first, so that numbers below 0 and beyond 16 bits are well.
func turned(x int) int { return mask16 - x&mask16 }

// Plus adds two words as Sum does.
func Plus(a, b int) int { return fold(uint64(a&mask16) + uint64(b&mask16)) }

// Update answers what a check becomes when a word under it is changed from old to new.
func Update(check, old, new int) int {
	return turned(Plus(Plus(turned(check), turned(old)), new))
}

// register is what Crc has of the bytes so far.
type register uint32

// step takes one more byte in.
func (r *register) step(c byte) {
	x := uint32(*r) ^ uint32(c)
	for range 8 {
		went := x & 1
		x >>= 1
		if went == 1 {
			x ^= divisor
		}
	}
	*r = register(x)
}

// Crc answers the CRC-32 of the bytes.
func Crc(b []byte) uint32 {
	r := register(allOnes)
	step := r.step
	for _, c := range b {
		step(c)
	}
	return ^uint32(r)
}
