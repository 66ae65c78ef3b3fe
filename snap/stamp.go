package snap

import (
	"althing/api"
	"althing/wire"
)

const maxData = 1 << 20

// stamp is what a snapshot is known by.
type stamp struct {
	number int
	length int // how many bytes its data have
	sum    int
}

// stampOf: the stamp of a snapshot.
func stampOf(number int, data []byte) stamp {
	return stamp{number: number, length: len(data), sum: wire.Sum(data)}
}

// fits: can these be its data?
func (s stamp) fits(data []byte) bool {
	return len(data) == s.length && wire.Sum(data) == s.sum
}

// manifest: the bytes of a manifest with this stamp.
func (s stamp) manifest() ([]byte, api.Errno) {
	payload, e := wire.Numbers(s.number, s.length, s.sum)
	if e != api.OK {
		return nil, e
	}
	return wire.Frame(payload)
}

// parseManifest: the stamp of a manifest; false, if the bytes are not one frame of three numbers.
func parseManifest(b []byte) (stamp, bool) {
	payload, end, e := wire.Unframe(b, 0)
	if e != api.OK || end != len(b) {
		return stamp{}, false
	}
	r := wire.NewReader(payload)
	var s stamp
	s.number = r.Num()
	s.length = r.Num()
	s.sum = r.Num()
	if r.Err() != api.OK || r.Left() > 0 {
		return stamp{}, false
	}
	return s, true
}
