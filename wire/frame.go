package wire

import (
	"bytes"
	"slices"

	"althing/api"
)

const (
	polynomial = 0xedb88320
	fieldSize  = 4
	headSize   = 2 * fieldSize // the length and the sum
)

// Sum: the checksum.
func Sum(b []byte) int { return sumOf(b) }

// sumOf takes the parts as if they stood one behind the other, so that nobody has to join them.
func sumOf(parts ...[]byte) int {
	sum := ^uint32(0)
	for _, part := range parts {
		for _, x := range part {
			sum = sumBits(sum ^ uint32(x))
		}
	}
	return int(^sum)
}

// sumBits takes the bit as a factor: a branch on it would be guessed wrongly every other time.
func sumBits(sum uint32) uint32 {
	for range 8 {
		sum = sum>>1 ^ (sum&1)*polynomial
	}
	return sum
}

// Frame: a frame.
func Frame(payload []byte) ([]byte, api.Errno) {
	if len(payload) > api.MaxRecord {
		return nil, api.ErrLong
	}
	size := field(len(payload))
	return slices.Concat(size, field(sumOf(size, payload)), payload), api.OK
}

// Unframe: the payload of the frame at a place, and the place behind it.
func Unframe(b []byte, at int) (payload []byte, end int, e api.Errno) {
	if at < 0 || at > len(b) {
		return nil, 0, api.ErrPlace
	}
	frame := b[at:]
	if len(frame) < headSize {
		return nil, 0, api.ErrShort
	}
	size := fieldValue(frame)
	if size > api.MaxRecord {
		return nil, 0, api.ErrLong
	}
	if size > len(frame)-headSize {
		return nil, 0, api.ErrShort
	}
	body := frame[headSize : headSize+size]
	if sumOf(frame[:fieldSize], body) != fieldValue(frame[fieldSize:]) {
		return nil, 0, api.ErrSum
	}
	return bytes.Clone(body), at + headSize + size, api.OK
}

// field: a number below 2^32 in four bytes, the lowest first.
func field(n int) []byte {
	return []byte{byte(n), byte(n >> 8), byte(n >> 16), byte(n >> 24)}
}

// fieldValue: the number in the first four bytes.
func fieldValue(b []byte) int {
	return int(b[0]) | int(b[1])<<8 | int(b[2])<<16 | int(b[3])<<24
}
