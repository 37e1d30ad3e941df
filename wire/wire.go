// Package wire: numbers and check sums as the files of the disk have them: see DOC.md, 'Words'.
package wire

// Size is how many bytes a number has, and a check sum too.
const Size = 4

// Append lays n behind b as four bytes, the greatest first.
func Append(b []byte, n uint32) []byte {
	return append(b, byte(n>>24), byte(n>>16), byte(n>>8), byte(n))
}

// Number tells the number that the first four bytes of b are; there are four at least.
func Number(b []byte) uint32 {
	return uint32(b[0])<<24 | uint32(b[1])<<16 | uint32(b[2])<<8 | uint32(b[3])
}

// Seal lays the check sum of b behind it.
func Seal(b []byte) []byte { return Append(b, Crc(b)) }

// Unseal tells what lies ahead of the check sum at the end of b, if the sum is right.
func Unseal(b []byte) ([]byte, bool) {
	n := len(b) - Size
	if n < 0 || Number(b[n:]) != Crc(b[:n]) {
		return nil, false
	}
	return b[:n], true
}

// polynomial is that of IEEE 802.3, its lowest power in the highest bit.
const polynomial = 0xedb88320

// Crc is the CRC-32 of b.
func Crc(b []byte) uint32 {
	sum := ^uint32(0)
	for _, x := range b {
		sum ^= uint32(x)
		for range 8 {
			low := sum & 1
			sum = sum>>1 ^ low*polynomial
		}
	}
	return ^sum
}
