package wire

import (
	"bytes"

	"althing/api"
)

// Reader reads.
type Reader struct {
	rest []byte
	err  api.Errno
}

// NewReader: a reader at the first byte.
func NewReader(b []byte) *Reader { return &Reader{rest: bytes.Clone(b)} }

// Num reads a number.
func (r *Reader) Num() int {
	n, end := r.number()
	r.rest = r.rest[end:]
	return n
}

// Blob reads bytes.
func (r *Reader) Blob() []byte { return bytes.Clone(r.take()) }

// Text reads a text.
func (r *Reader) Text() string { return string(r.take()) }

// Left: how many bytes are left.
func (r *Reader) Left() int { return len(r.rest) }

// Err: the first error.
func (r *Reader) Err() api.Errno { return r.err }

// number: the next number and where it ends; it goes past nothing, for bytes may fall short behind their length.
func (r *Reader) number() (n, end int) {
	if r.err == api.OK {
		n, end, r.err = Number(r.rest, 0)
	}
	return n, end
}

// take: the next bytes, in the reader's own memory. At an error size and start are 0, and so nothing is gone past.
func (r *Reader) take() []byte {
	size, start := r.number()
	if size > len(r.rest)-start {
		r.err = api.ErrShort
		return nil
	}
	taken := r.rest[start : start+size]
	r.rest = r.rest[start+size:]
	return taken
}
