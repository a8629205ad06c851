// Package sum is layer 2: numbers of fixed length, and sums (CRC-32) by which
// spoilt bytes are told.
package sum

import "concordance/api"

const (
	maxSize  = 7 // bytes of a number: with eight an int could turn negative
	sumBytes = 4
)

// steps has what four shifts put to the register, by the four bits that fall out.
var steps = [16]uint32{
	0x00000000, 0x1DB71064, 0x3B6E20C8, 0x26D930AC,
	0x76DC4190, 0x6B6B51F4, 0x4DB26158, 0x5005713C,
	0xEDB88320, 0xF00F9344, 0xD6D6A3E8, 0xCB61B38C,
	0x9B64C2B0, 0x86D3D2D4, 0xA00AE278, 0xBDBDF21C,
}

// Sum of a text (CRC-32).
func Sum(s string) uint32 {
	register := ^uint32(0)
	for i := range len(s) {
		register ^= uint32(s[i])
		register = register>>4 ^ steps[register&15]
		register = register>>4 ^ steps[register&15]
	}
	return ^register
}

// Put: a number in so many bytes, the highest first.
func Put(n, size int) string {
	if size < 1 || size > maxSize || n < 0 || n>>(8*size) != 0 {
		return ""
	}
	b := make([]byte, size)
	for i := range size {
		b[size-1-i] = byte(n >> (8 * i))
	}
	return string(b)
}

// Get the number of bytes, the highest first.
func Get(s string) int {
	if len(s) > maxSize {
		return 0
	}
	n := 0
	for i := range len(s) {
		n = n<<8 | int(s[i])
	}
	return n
}

// Seal bytes: their Sum stands behind them.
func Seal(s string) string {
	return s + tail(s)
}

// Open what was sealed.
func Open(s string) (string, api.Errno) {
	if len(s) < sumBytes {
		return "", api.ErrShort
	}
	at := len(s) - sumBytes
	if s[at:] != tail(s[:at]) {
		return "", api.ErrSum
	}
	return s[:at], api.OK
}

// tail is the Sum of s as bytes, the lowest first: in the order in which a Sum
// takes bits in, which is why no change of four bytes in a row goes unseen,
// also where it reaches into the tail.
func tail(s string) string {
	n := Sum(s)
	return string([]byte{byte(n), byte(n >> 8), byte(n >> 16), byte(n >> 24)})
}
