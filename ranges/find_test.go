package ranges_test

import (
	"testing"

	"handover/api"
	"handover/ranges"
)

func TestFind(t *testing.T) {
	for _, c := range []struct {
		m    []api.Piece
		key  uint64
		want uint8
	}{
		{pieces(0, 0), 0, 0}, {pieces(0, 3), 0, 3}, {pieces(0, 3), 1 << 63, 3}, {pieces(0, 3), most, 3},
		{pieces(0, 1, 1, 0), 0, 1}, {pieces(0, 1, 1, 0), 1, 0}, {pieces(0, 1, 1, 0), most, 0},
		{pieces(0, 1, most, 2), most - 1, 1}, {pieces(0, 1, most, 2), most, 2},
		{pieces(0, 1, 10, 2, 20, 0), 9, 1}, {pieces(0, 1, 10, 2, 20, 0), 10, 2},
		{pieces(0, 1, 10, 2, 20, 0), 15, 2}, {pieces(0, 1, 10, 2, 20, 0), 19, 2},
		{pieces(0, 1, 10, 2, 20, 0), 20, 0}, {pieces(0, 1, 10, 2, 20, 0), most, 0},
		{pieces(0, 1, 1<<63-1, 2, 1<<63, 3), 1<<63 - 2, 1}, {pieces(0, 1, 1<<63-1, 2, 1<<63, 3), 1<<63 - 1, 2},
		{pieces(0, 1, 1<<63-1, 2, 1<<63, 3), 1 << 63, 3}, {pieces(0, 1, 1<<63-1, 2, 1<<63, 3), most, 3},
	} {
		finds(t, c.m, c.key, c.want)
	}
}

// A map of 1000 pieces, at both ends of each.
func TestFindInLongMap(t *testing.T) {
	m := long(1000)
	for i, p := range m {
		finds(t, m, p.From, uint8(i%2))
		finds(t, m, p.From+9, uint8(i%2))
	}
	finds(t, m, most, 1)
}

// noMaps: lists that are no map of keys, each by one fault alone.
func noMaps() [][]api.Piece {
	return [][]api.Piece{
		nil, {},
		pieces(1, 0), pieces(most, 0), pieces(1, 0, 2, 1),
		pieces(0, 0, 0, 1), pieces(0, 0, 5, 1, 5, 2), pieces(0, 0, 5, 1, 4, 2), pieces(0, 0, 5, 1, 0, 2),
		pieces(0, 0, most, 1, most, 2), pieces(0, 0, most, 1, 0, 2), pieces(0, 0, 1<<63, 1, 1, 2),
		pieces(0, 4), pieces(0, 255), pieces(0, 4, 5, 0), pieces(0, 0, 5, 4), pieces(0, 0, 5, 4, 6, 1), pieces(0, 0, 5, 1, 6, 255),
		pieces(0, 0, 5, 0), pieces(0, 3, 5, 3), pieces(0, 0, 5, 1, 6, 1), pieces(0, 0, 5, 0, 6, 1), pieces(0, 0, 5, 1, most, 1),
		long(1001), long(1002), long(5000),
	}
}

func TestFindInNoMap(t *testing.T) {
	for _, m := range noMaps() {
		for _, key := range []uint64{0, 1, 4, 5, 6, 9995, most} {
			if g, e := ranges.Find(m, key); g != 0 || e != api.ErrMap {
				t.Errorf("P5, P1: Find(%.200v, %d) = %d, %d, want 0, %d", m, key, g, e, api.ErrMap)
			}
		}
	}
}

// What spoils a map spoils it at its end too, however long it is.
func TestFindInLongNoMap(t *testing.T) {
	for _, last := range []api.Piece{{From: 9980, Group: 1}, {From: 9979, Group: 1}, {From: 9990, Group: 0}, {From: 9990, Group: 4}} {
		m := append(long(999), last)
		if g, e := ranges.Find(m, 0); g != 0 || e != api.ErrMap {
			t.Errorf("P5, P1: Find in 1000 pieces with %v last = %d, %d, want 0, %d", last, g, e, api.ErrMap)
		}
	}
}
