package ranges_test

import (
	"slices"
	"testing"

	"handover/api"
	"handover/ranges"
)

func TestGive(t *testing.T) {
	one := pieces(0, 0)
	three := pieces(0, 0, 10, 2, 20, 0)
	four := pieces(0, 1, 1, 2, 2, 3, 3, 0)
	for _, c := range []struct {
		m      []api.Piece
		lo, hi uint64
		group  uint8
		want   []api.Piece
	}{
		// In the midst of a piece.
		{one, 10, 19, 2, three}, {one, 5, 5, 1, pieces(0, 0, 5, 1, 6, 0)},
		{three, 12, 14, 1, pieces(0, 0, 10, 2, 12, 1, 15, 2, 20, 0)},
		// From the first key on, or up to the last one.
		{one, 0, 9, 3, pieces(0, 3, 10, 0)}, {one, 20, most, 2, pieces(0, 0, 20, 2)},
		{one, 0, 0, 1, pieces(0, 1, 1, 0)}, {one, most, most, 1, pieces(0, 0, most, 1)},
		{one, 0, most - 1, 1, pieces(0, 1, most, 0)}, {one, 1, most, 1, pieces(0, 0, 1, 1)},
		{one, most - 1, most - 1, 1, pieces(0, 0, most-1, 1, most, 0)}, {one, 1, 1, 1, pieces(0, 0, 1, 1, 2, 0)},
		// All keys.
		{one, 0, most, 0, one}, {one, 0, most, 3, pieces(0, 3)}, {three, 0, most, 0, one}, {three, 0, most, 1, pieces(0, 1)},
		// To the group that has them.
		{three, 12, 14, 2, three}, {three, 10, 19, 2, three}, {three, 0, 9, 0, three}, {three, 20, most, 0, three},
		{three, 15, 15, 2, three}, {three, 30, most, 0, three},
		// Just a piece, which joins none, one or both of its neighbours.
		{three, 10, 19, 3, pieces(0, 0, 10, 3, 20, 0)}, {three, 10, 19, 0, one},
		{four, 1, 1, 1, pieces(0, 1, 2, 3, 3, 0)}, {four, 1, 1, 3, pieces(0, 1, 1, 3, 3, 0)},
		{three, 0, 9, 2, pieces(0, 2, 20, 0)}, {three, 20, most, 2, pieces(0, 0, 10, 2)},
		// Beside a border: they join that neighbour, and on the other side they cut.
		{three, 5, 9, 2, pieces(0, 0, 5, 2, 20, 0)}, {three, 20, 24, 2, pieces(0, 0, 10, 2, 25, 0)},
		{three, 10, 12, 0, pieces(0, 0, 13, 2, 20, 0)}, {three, 15, 19, 0, pieces(0, 0, 10, 2, 15, 0)},
		{three, 10, 10, 0, pieces(0, 0, 11, 2, 20, 0)}, {three, 19, 19, 0, pieces(0, 0, 10, 2, 19, 0)},
		{three, 10, 12, 1, pieces(0, 0, 10, 1, 13, 2, 20, 0)}, {three, 15, 19, 1, pieces(0, 0, 10, 2, 15, 1, 20, 0)},
		// Over a border, or over many.
		{three, 15, 30, 1, pieces(0, 0, 10, 2, 15, 1, 31, 0)}, {three, 15, 30, 0, pieces(0, 0, 10, 2, 15, 0)},
		{three, 15, 30, 2, pieces(0, 0, 10, 2, 31, 0)}, {three, 5, 15, 0, pieces(0, 0, 16, 2, 20, 0)},
		{three, 9, 20, 3, pieces(0, 0, 9, 3, 21, 0)}, {three, 5, 30, 0, one}, {three, 5, 30, 2, pieces(0, 0, 5, 2, 31, 0)},
		{four, 1, 2, 1, pieces(0, 1, 3, 0)}, {four, 1, 2, 0, pieces(0, 1, 1, 0)}, {four, 0, 2, 0, one}, {four, 1, most, 1, pieces(0, 1)},
		{four, 0, 2, 3, pieces(0, 3, 3, 0)}, {four, 3, most, 3, pieces(0, 1, 1, 2, 2, 3)},
	} {
		gives(t, c.m, c.lo, c.hi, c.group, c.want)
	}
}

// cells are the keys, as neighbours of one kind, that the small maps below tell
// apart: each cell begins at one of these keys.
var cells = []uint64{0, 1, 2, 10, most - 1, most}

// pack is the map in which the cells belong to these groups.
func pack(groups []uint8) []api.Piece {
	var list []api.Piece
	for i, g := range groups {
		if i == 0 || groups[i-1] != g {
			list = append(list, api.Piece{From: cells[i], Group: g})
		}
	}
	return list
}

// lastOf is the last key of a cell.
func lastOf(cell int) uint64 {
	if cell == len(cells)-1 {
		return most
	}
	return cells[cell+1] - 1
}

// Every map over the cells, every range of whole cells, every group.
func TestGiveAllSmallMaps(t *testing.T) {
	for number := range 1 << (2 * len(cells)) {
		groups := make([]uint8, len(cells))
		for i := range groups {
			groups[i] = uint8(number >> (2 * i) & 3)
		}
		m := pack(groups)
		for i, g := range groups {
			finds(t, m, cells[i], g)
			finds(t, m, lastOf(i), g)
		}
		giveEachRange(t, m, groups)
	}
}

func giveEachRange(t *testing.T, m []api.Piece, groups []uint8) {
	t.Helper()
	for lo := range cells {
		for hi := lo; hi < len(cells); hi++ {
			for g := range uint8(api.MaxGroups) {
				after := slices.Clone(groups)
				for i := lo; i <= hi; i++ {
					after[i] = g
				}
				gives(t, m, cells[lo], lastOf(hi), g, pack(after))
			}
		}
	}
}

func TestGiveInNoMap(t *testing.T) {
	for _, m := range noMaps() {
		givesNot(t, m, 3, 9, 1, api.ErrMap)
		givesNot(t, m, 0, most, 0, api.ErrMap)
		// What is wrong besides is not told: the map comes first.
		givesNot(t, m, 9, 3, 1, api.ErrMap)
		givesNot(t, m, 3, 9, 4, api.ErrMap)
		givesNot(t, m, 9, 3, 255, api.ErrMap)
	}
}

func TestGiveNoRange(t *testing.T) {
	for _, m := range [][]api.Piece{pieces(0, 0), pieces(0, 0, 10, 2, 20, 0), long(1000)} {
		givesNot(t, m, 9, 3, 1, api.ErrRange)
		givesNot(t, m, 1, 0, 0, api.ErrRange)
		givesNot(t, m, most, 0, 3, api.ErrRange)
		givesNot(t, m, most, most-1, 2, api.ErrRange)
		givesNot(t, m, 3, 9, 4, api.ErrRange)
		givesNot(t, m, 0, most, 4, api.ErrRange)
		givesNot(t, m, 12, 12, 255, api.ErrRange)
		givesNot(t, m, 9, 3, 4, api.ErrRange)
	}
}

// How many pieces a map may have is asked of the map that comes out.
func TestGiveManyPieces(t *testing.T) {
	for _, c := range []struct {
		had    int
		lo, hi uint64
		group  uint8
		has    int
	}{
		{998, 5, 5, 3, 1000}, {998, 0, 0, 3, 999}, {999, 0, 4, 3, 1000}, {999, 9980, 9980, 3, 1000}, {999, 5, 9, 3, 1000}, {999, most, most, 3, 1000},
		{999, 5, 5, 3, 1001}, {999, 9985, 9990, 3, 1001}, {1000, 5, 5, 3, 1002}, {1000, 5, 5, 1, 1002},
		{1000, 0, 0, 3, 1001}, {1000, 5, 9, 3, 1001}, {1000, 10, 14, 2, 1001}, {1000, most, most, 3, 1001}, {1000, 9995, most, 0, 1001},
		{1000, 5, 9, 1, 1000}, {1000, 10, 14, 0, 1000}, {1000, 10, 19, 3, 1000}, {1000, 15, 24, 3, 1001}, {1000, 15, 34, 3, 1000},
		{1000, 5, 5, 0, 1000}, {1000, 10, 19, 0, 998}, {1000, 0, 9, 1, 999}, {1000, 9990, most, 0, 999}, {1000, 0, most, 2, 1},
	} {
		got, e := ranges.Give(long(c.had), c.lo, c.hi, c.group)
		if c.has > api.MaxMap {
			if len(got) != 0 || e != api.ErrMap {
				t.Errorf("P5, P1: %+v: %d pieces, %d, want none, %d", c, len(got), e, api.ErrMap)
			}
			continue
		}
		if len(got) != c.has || e != api.OK {
			t.Errorf("P5: %+v: %d pieces, %d", c, len(got), e)
		}
		if _, e := ranges.Find(got, 0); e != api.OK {
			t.Errorf("P5: %+v: what came out is no map", c)
		}
	}
}
