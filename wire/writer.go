package wire

import (
	"bytes"

	"althing/api"
)

// buffer is what was written, and whether a number was among it that can't be written.
type buffer struct {
	bytes.Buffer
	bad bool
}

func (b *buffer) number(n int) {
	if n < 0 || n > api.MaxNum {
		b.bad = true
		return
	}
	for ; n >= more; n >>= groupBits {
		b.WriteByte(byte(n) | more)
	}
	b.WriteByte(byte(n))
}

// Writer writes.
type Writer struct{ buffer }

// NewWriter: nothing is written.
func NewWriter() *Writer { return &Writer{} }

// Nums writes numbers.
func (w *Writer) Nums(ns ...int) {
	for _, n := range ns {
		w.number(n)
	}
}

// Blobs writes bytes.
func (w *Writer) Blobs(list ...[]byte) {
	for _, blob := range list {
		w.number(len(blob))
		w.Write(blob)
	}
}

// Texts writes texts.
func (w *Writer) Texts(list ...string) {
	for _, text := range list {
		w.number(len(text))
		w.WriteString(text)
	}
}

// Out: all that was written.
func (w *Writer) Out() ([]byte, api.Errno) {
	if w.bad {
		return nil, api.ErrNumber
	}
	return bytes.Clone(w.Bytes()), api.OK
}
