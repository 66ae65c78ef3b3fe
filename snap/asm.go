package snap

import (
	"bytes"

	"althing/api"
)

// Asm puts chunks together.
type Asm struct {
	whole whole          // of the first chunk that was taken; zero, as long as none was
	parts map[int][]byte // by their places: a chunk may speak of many others that never come
}

// NewAsm: no chunk has come.
func NewAsm() *Asm { return &Asm{parts: map[int][]byte{}} }

// Add: chunks have come.
func (a *Asm) Add(chunks ...[]byte) api.Errno {
	for _, b := range chunks {
		if e := a.take(b); e != api.OK {
			return e
		}
	}
	return api.OK
}

// take takes one chunk, or leaves all as it is.
func (a *Asm) take(b []byte) api.Errno {
	c, ok := parseChunk(b)
	if !ok {
		return api.ErrChunk
	}
	if len(a.parts) > 0 && c.whole != a.whole {
		return api.ErrOther
	}
	if part, there := a.parts[c.place]; there && !bytes.Equal(part, c.part) {
		return api.ErrOther
	}
	a.whole = c.whole
	a.parts[c.place] = c.part
	return api.OK
}

// Missing: which chunks have not come.
func (a *Asm) Missing() []int {
	var missing []int
	for place := range a.whole.count {
		if _, there := a.parts[place]; !there {
			missing = append(missing, place)
		}
	}
	return missing
}

// Done: the snapshot, if all have come.
func (a *Asm) Done() (number int, data []byte, ok bool) {
	if len(a.parts) == 0 || len(a.parts) < a.whole.count || a.size() != a.whole.length {
		return 0, nil, false
	}
	data = a.joined()
	if !a.whole.fits(data) {
		return 0, nil, false
	}
	return a.whole.number, data, true
}

// size: how many bytes the parts have together. It is asked ahead of joining them, as parts that don't go together may have very many.
func (a *Asm) size() int {
	size := 0
	for _, part := range a.parts {
		size += len(part)
	}
	return size
}

// joined: the parts one behind the other.
func (a *Asm) joined() []byte {
	data := make([]byte, 0, a.whole.length)
	for place := range a.whole.count {
		data = append(data, a.parts[place]...)
	}
	return data
}
