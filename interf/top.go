package interf

import "althing/api"

// top is the greatest sequence number of some commands, and of each replica the greatest Num of their instances: noughts, if there are none.
type top struct {
	seq  int
	nums [api.MaxReplicas]int
}

// with: one more command.
func (t top) with(id api.ID, seq int) top {
	t.seq = max(t.seq, seq)
	t.nums[id.Rep] = max(t.nums[id.Rep], id.Num)
	return t
}

// join: the commands of both.
func (t top) join(u top) top {
	t.seq = max(t.seq, u.seq)
	for r, n := range u.nums {
		t.nums[r] = max(t.nums[r], n)
	}
	return t
}
