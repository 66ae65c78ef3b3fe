package snap

import (
	"slices"

	"althing/api"
	"althing/wire"
)

const (
	maxSize  = 1 << 15
	maxCount = 1 << 20
)

// whole is what all chunks of a snapshot have alike.
type whole struct {
	stamp
	count int // how many chunks there are
}

// chunk is a part of a snapshot.
type chunk struct {
	whole
	place int // the how-manieth it is, from 0 on
	part  []byte
}

// Chunks: a snapshot's chunks.
func Chunks(number int, data []byte, size int) ([][]byte, api.Errno) {
	if e := check(number, data); e != api.OK {
		return nil, e
	}
	if size < 1 || size > maxSize {
		return nil, api.ErrNumber
	}
	parts := cut(data, size)
	w := whole{stamp: stampOf(number, data), count: len(parts)}
	chunks := make([][]byte, 0, len(parts))
	for place, part := range parts {
		b, e := chunk{whole: w, place: place, part: part}.bytes()
		if e != api.OK {
			return nil, e
		}
		chunks = append(chunks, b)
	}
	return chunks, api.OK
}

// cut: the data cut after every size bytes, in their own memory; without data one part, as a snapshot has at least one chunk.
func cut(data []byte, size int) [][]byte {
	if len(data) == 0 {
		return [][]byte{nil}
	}
	return slices.Collect(slices.Chunk(data, size))
}

// bytes: the chunk as it goes on its way.
func (c chunk) bytes() ([]byte, api.Errno) {
	w := wire.NewWriter()
	w.Nums(c.number, c.count, c.place, c.length, c.sum)
	w.Blobs(c.part)
	return w.Out()
}

// parseChunk: the chunk, in new memory; false, if the bytes are none.
func parseChunk(b []byte) (chunk, bool) {
	r := wire.NewReader(b)
	var c chunk
	c.number = r.Num()
	c.count = r.Num()
	c.place = r.Num()
	c.length = r.Num()
	c.sum = r.Num()
	c.part = r.Blob()
	if r.Err() != api.OK || r.Left() > 0 || !c.isSound() {
		return chunk{}, false
	}
	return c, true
}

// isSound: do its numbers go together? That there is a chunk at all follows from the place, which is never below 0.
func (c chunk) isSound() bool {
	return c.place < c.count && c.count <= maxCount && len(c.part) <= c.length && c.length <= maxData
}
