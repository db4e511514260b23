package shard_test

import (
	"testing"

	"handover/api"
)

// lanes is a shard with three ranges to the group 1, and one to the group 2.
func lanes(t *testing.T) api.Shard {
	t.Helper()
	s := begin(t, 0, 3)
	for i := range uint64(3) {
		s = says(t, s, set(0, 1, 10*i, i), ok)
		s = says(t, s, delegate(1, 1, 10*i, 10*i+9, 1), ok)
	}
	return says(t, s, delegate(1, 1, 50, 59, 2), ok)
}

func TestSettle(t *testing.T) {
	for seq, left := range []int{3, 2, 1, 0, 0} {
		s := lanes(t)
		got := silent(t, s, settle(1, uint32(seq)))
		want := s
		want.Out = append([]api.Lane(nil), s.Out...)
		want.Out[1].Queue = s.Out[1].Queue[3-left:]
		same(t, got, want)
		idle(t, got, settle(1, uint32(seq)))
	}
	s := silent(t, lanes(t), settle(1, most32))
	if len(s.Out[1].Queue) != 0 || s.Out[1].Next != 4 || len(s.Out[2].Queue) != 1 {
		t.Errorf("P7: the lanes: %+v", s.Out)
	}
	s = silent(t, s, settle(2, 1))
	if len(s.Out[2].Queue) != 0 || s.Out[2].Next != 2 {
		t.Errorf("P7: the lanes: %+v", s.Out)
	}
	s = says(t, s, delegate(1, 1, 30, 39, 1), ok)
	if len(s.Out[1].Queue) != 1 || s.Out[1].Queue[0].Seq != 4 {
		t.Errorf("P7: the lanes: %+v", s.Out)
	}
}

func TestSettleNothing(t *testing.T) {
	s := lanes(t)
	for _, c := range []api.Command{settle(0, 1), settle(0, most32), settle(1, 0), settle(2, 0)} {
		idle(t, s, c)
	}
	for _, peer := range []uint8{3, 4, 77, 255} {
		for _, seq := range []uint32{0, 1, 3, most32} {
			idle(t, s, settle(peer, seq))
		}
	}
}
