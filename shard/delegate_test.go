package shard_test

import (
	"testing"

	"handover/api"
)

func TestDelegate(t *testing.T) {
	s := begin(t, 0, 3)
	for _, key := range []uint64{25, 10, 19, 9, 20, 15, 30} {
		s = says(t, s, set(2, 1, key, key+100), ok)
	}
	s = says(t, s, get(1, 4, 15), value(115))
	s = says(t, s, get(0, 7, 10), value(110))
	s = says(t, s, get(0, 7, 12), none)
	s = says(t, s, remove(3, 1, 10), ok)
	s = says(t, s, remove(3, 1, 13), ok)
	s = says(t, s, set(3, 1, 10, 1), ok) // that was done
	s = says(t, s, delegate(1, 4, 10, 19, 2), ok)
	want := begin(t, 0, 3)
	want.Map = pieces(0, 0, 10, 2, 20, 0)
	want.Table = rows(9, 109, 20, 120, 25, 125, 30, 130)
	want.Dups = []api.Reply{reply(2, 1, 9, ok), reply(2, 1, 20, ok), reply(2, 1, 25, ok), reply(2, 1, 30, ok)}
	want.Out[2] = api.Lane{Next: 2, Queue: []api.Range{{
		Src: 0, Dst: 2, Seq: 1, Lo: 10, Hi: 19,
		Rows: rows(15, 115, 19, 119),
		Dups: []api.Reply{
			reply(0, 7, 10, value(110)), reply(1, 4, 10, ok), reply(2, 1, 10, ok), reply(3, 1, 10, ok),
			reply(0, 7, 12, none), reply(3, 1, 13, ok),
			reply(1, 4, 15, value(115)), reply(2, 1, 15, ok), reply(2, 1, 19, ok),
		},
	}}}
	same(t, s, want)
	saysOnly(t, s, delegate(1, 4, 10, 19, 2), redirect(2))
	saysOnly(t, s, delegate(1, 5, 9, 20, 2), redirect(2))
}

// A Delegate's reply takes the place of one that was there, and goes along.
func TestDelegateOverDup(t *testing.T) {
	s := begin(t, 0, 2)
	s = says(t, s, set(1, 1, 5, 7), ok)
	s = says(t, s, get(2, 1, 5), value(7))
	s = says(t, s, get(1, 1, 4), none)
	s = says(t, s, delegate(1, 2, 5, 9, 1), ok)
	want := begin(t, 0, 2)
	want.Map = pieces(0, 0, 5, 1, 10, 0)
	want.Dups = []api.Reply{reply(1, 1, 4, none)}
	want.Out[1] = api.Lane{Next: 2, Queue: []api.Range{{
		Src: 0, Dst: 1, Seq: 1, Lo: 5, Hi: 9, Rows: rows(5, 7),
		Dups: []api.Reply{reply(1, 2, 5, ok), reply(2, 1, 5, value(7))},
	}}}
	same(t, s, want)
}

func TestDelegateEnds(t *testing.T) {
	for _, c := range []struct {
		lo, hi uint64
		m      []api.Piece
		kept   []api.Row
		gone   []api.Row
	}{
		{0, most, pieces(0, 1), nil, rows(0, 1, 5, 2, most, 3)},
		{0, 0, pieces(0, 1, 1, 0), rows(5, 2, most, 3), rows(0, 1)},
		{0, 5, pieces(0, 1, 6, 0), rows(most, 3), rows(0, 1, 5, 2)},
		{5, 5, pieces(0, 0, 5, 1, 6, 0), rows(0, 1, most, 3), rows(5, 2)},
		{6, most - 1, pieces(0, 0, 6, 1, most, 0), rows(0, 1, 5, 2, most, 3), nil},
		{6, most, pieces(0, 0, 6, 1), rows(0, 1, 5, 2), rows(most, 3)},
		{most, most, pieces(0, 0, most, 1), rows(0, 1, 5, 2), rows(most, 3)},
	} {
		s := begin(t, 0, 2)
		s = says(t, s, set(0, 1, 0, 1), ok)
		s = says(t, s, set(0, 1, 5, 2), ok)
		s = says(t, s, set(0, 1, most, 3), ok)
		s = says(t, s, delegate(3, 1, c.lo, c.hi, 1), ok)
		queue := s.Out[1].Queue
		if len(queue) != 1 {
			t.Fatalf("P7: the lane: %+v", queue)
		}
		got := api.Shard{Map: s.Map, Table: s.Table}
		same(t, got, api.Shard{Map: c.m, Table: c.kept})
		same(t, api.Shard{Table: queue[0].Rows}, api.Shard{Table: c.gone})
		if queue[0].Lo != c.lo || queue[0].Hi != c.hi {
			t.Errorf("P7: %+v, want %d to %d", queue[0], c.lo, c.hi)
		}
	}
}

// refused asks for a Delegate for which there is no room: the reply is
// remembered and nothing else changes.
func refused(t *testing.T, s api.Shard, q api.Request) api.Shard {
	t.Helper()
	next := says(t, s, q, full)
	saysOnly(t, next, q, full)
	saysOnly(t, next, get(q.Client, q.Seq, q.Key), full)
	bare, was := next, s
	bare.Dups, was.Dups = nil, nil
	same(t, bare, was)
	return next
}

func TestDelegateToNobody(t *testing.T) {
	for groups := 1; groups <= 4; groups++ {
		s := says(t, begin(t, 0, groups), set(1, 1, 15, 1), ok)
		for to := range uint8(4) {
			if to == 0 || int(to) >= groups {
				next := refused(t, s, delegate(1, 1, 10, 19, to))
				want := s
				want.Dups = []api.Reply{reply(1, 1, 10, full), reply(1, 1, 15, ok)}
				same(t, next, want)
			} else {
				says(t, s, delegate(1, 1, 10, 19, to), ok)
			}
		}
	}
}

func TestDelegateToItself(t *testing.T) {
	s := silent(t, begin(t, 2, 3), receive(api.Range{Src: 0, Dst: 2, Seq: 1, Lo: 10, Hi: 19, Rows: rows(15, 1)}))
	s = refused(t, s, delegate(0, 1, 10, 19, 2))
	s = refused(t, s, delegate(0, 2, 10, 19, 3))
	says(t, s, delegate(0, 3, 10, 19, 1), ok)
}

func TestFourInTheLane(t *testing.T) {
	s := begin(t, 0, 3)
	for i := range uint64(4) {
		s = says(t, s, delegate(0, 1, 10*i, 10*i+9, 1), ok)
	}
	lane := s.Out[1]
	if len(lane.Queue) != 4 || lane.Next != 5 {
		t.Fatalf("P7: the lane: %+v", lane)
	}
	for i, r := range lane.Queue {
		if r.Seq != uint32(i+1) || r.Lo != uint64(10*i) || r.Hi != r.Lo+9 || r.Src != 0 || r.Dst != 1 {
			t.Errorf("P7: the range %d: %+v", i, r)
		}
	}
	s = refused(t, s, delegate(0, 1, 40, 49, 1))
	// The lane to another group has room of its own.
	two := says(t, s, delegate(0, 2, 40, 49, 2), ok)
	if len(two.Out[1].Queue) != 4 || len(two.Out[2].Queue) != 1 || two.Out[2].Queue[0].Seq != 1 || two.Out[2].Next != 2 || two.Out[1].Next != 5 {
		t.Errorf("P7: the lanes: %+v", two.Out)
	}
	s = silent(t, s, settle(1, 1))
	s = says(t, s, delegate(0, 2, 40, 49, 1), ok)
	if lane := s.Out[1]; len(lane.Queue) != 4 || lane.Queue[0].Seq != 2 || lane.Queue[3].Seq != 5 || lane.Queue[3].Lo != 40 || lane.Next != 6 {
		t.Errorf("P7: the lane: %+v", lane)
	}
	refused(t, s, delegate(0, 2, 50, 59, 1))
}

func TestEightPieces(t *testing.T) {
	s := begin(t, 0, 3)
	s = says(t, s, delegate(0, 1, 10, 19, 1), ok)
	s = says(t, s, delegate(0, 1, 30, 39, 1), ok)
	s = says(t, s, delegate(0, 1, 50, 59, 2), ok)
	if len(s.Map) != 7 {
		t.Fatalf("P7: the map: %v", s.Map)
	}
	for to := uint8(1); to <= 2; to++ {
		refused(t, s, delegate(0, 1, 70, 79, to)) // nine
	}
	// Eight: at the end, and beside another group's keys.
	says(t, s, delegate(0, 1, 70, most, 1), ok)
	says(t, s, delegate(0, 1, 60, 69, 1), ok)
	// As many as there were, and fewer.
	says(t, s, delegate(0, 1, 60, 69, 2), ok)
	says(t, s, delegate(0, 1, 40, 49, 2), ok)
	less := says(t, s, delegate(0, 1, 20, 29, 1), ok)
	same(t, api.Shard{Map: less.Map}, api.Shard{Map: pieces(0, 0, 10, 1, 40, 0, 50, 2, 60, 0)})
	eight := says(t, s, delegate(0, 1, 70, most, 1), ok)
	if len(eight.Map) != 8 {
		t.Fatalf("P7: the map: %v", eight.Map)
	}
	refused(t, eight, delegate(0, 1, 0, 8, 1))
	refused(t, eight, delegate(0, 1, 22, 22, 2))
	says(t, eight, delegate(0, 1, 0, 9, 1), ok)
}

// By ranges that come in the map may have more than 8 pieces; then only what
// makes them 8 or fewer may be handed over.
func TestMoreThanEightPieces(t *testing.T) {
	s := begin(t, 1, 2)
	for i := range uint64(4) {
		s = silent(t, s, receive(api.Range{Src: 0, Dst: 1, Seq: uint32(i + 1), Lo: 10 + 20*i, Hi: 19 + 20*i}))
	}
	if len(s.Map) != 9 {
		t.Fatalf("P7: the map: %v", s.Map)
	}
	refused(t, s, delegate(0, 1, 12, 13, 0))
	refused(t, s, delegate(0, 1, 10, 12, 0)) // nine, as before
	s = says(t, s, delegate(0, 1, 10, 19, 0), ok)
	same(t, api.Shard{Map: s.Map}, api.Shard{Map: pieces(0, 0, 30, 1, 40, 0, 50, 1, 60, 0, 70, 1, 80, 0)})
	refused(t, s, delegate(0, 1, 32, 33, 0))
}

// A range takes all dups along, though none that has more than 255 is right.
func TestManyDups(t *testing.T) {
	s := begin(t, 0, 2)
	for key := range uint64(300) {
		s = says(t, s, get(uint8(key%4), 1, key), none)
	}
	s = says(t, s, delegate(0, 2, 0, 298, 1), ok)
	queue := s.Out[1].Queue
	if len(queue) != 1 || len(queue[0].Dups) != 299 || len(s.Dups) != 1 || queue[0].Dups[0] != reply(0, 2, 0, ok) {
		t.Fatalf("P7: behind the Delegate: %.300s", told(s))
	}
	idle(t, begin(t, 1, 2), receive(queue[0]))
}
