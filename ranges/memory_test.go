package ranges_test

import (
	"reflect"
	"slices"
	"testing"

	"handover/api"
	"handover/ranges"
)

// roomy is a copy of a list, with spare room that is not zero.
func roomy(m []api.Piece) []api.Piece {
	room := make([]api.Piece, len(m)+8)
	for i := range room {
		room[i] = api.Piece{From: 77, Group: 77}
	}
	copy(room, m)
	return room[:len(m)]
}

// whole is a list with its spare room.
func whole(m []api.Piece) []api.Piece { return m[:cap(m)] }

// overlap tells whether two lists share memory, spare room and all.
func overlap(a, b []api.Piece) bool {
	from := func(m []api.Piece) uintptr { return reflect.ValueOf(m).Pointer() }
	to := func(m []api.Piece) uintptr { return from(m) + uintptr(cap(m))*reflect.TypeFor[api.Piece]().Size() }
	return cap(a) > 0 && cap(b) > 0 && from(a) < to(b) && from(b) < to(a)
}

// A gift is a call of Give: where it changes nothing, where it cuts off an end,
// where it fails, and so on.
type gift struct {
	lo, hi uint64
	group  uint8
}

func gifts() []gift {
	var all []gift
	for _, lo := range []uint64{0, 1, 5, 9, 10, 12, 19, 20, 21, 30, most} {
		for _, hi := range []uint64{0, 5, 9, 10, 14, 19, 20, 24, 9995, most} {
			for group := range uint8(5) {
				all = append(all, gift{lo, hi, group})
			}
		}
	}
	return all
}

func TestHandedInStays(t *testing.T) {
	for _, m := range append(noMaps(), pieces(0, 0), pieces(0, 0, 10, 2, 20, 0), pieces(0, 1, 10, 2, 20, 3), long(1000)) {
		in := roomy(m)
		before := slices.Clone(whole(in))
		for _, g := range gifts() {
			first, e1 := ranges.Give(in, g.lo, g.hi, g.group)
			group, e2 := ranges.Find(in, g.lo)
			if !slices.Equal(whole(in), before) {
				t.Fatalf("P2: Give or Find wrote into %.200v: %+v", m, g)
			}
			if again, e := ranges.Give(in, g.lo, g.hi, g.group); !slices.Equal(again, first) || e != e1 {
				t.Fatalf("P2: Give(%.200v, %+v), twice: %.200v, %d and %.200v, %d", m, g, first, e1, again, e)
			}
			if again, e := ranges.Find(in, g.lo); again != group || e != e2 {
				t.Fatalf("P2: Find(%.200v, %d), twice: %d, %d and %d, %d", m, g.lo, group, e2, again, e)
			}
		}
	}
}

func TestFreshMemory(t *testing.T) {
	for _, m := range [][]api.Piece{pieces(0, 0), pieces(0, 0, 10, 2, 20, 0), pieces(0, 1, 10, 2, 20, 3)} {
		in := roomy(m)
		all := [][]api.Piece{in}
		want := [][]api.Piece{slices.Clone(in)}
		for _, g := range gifts() {
			out, _ := ranges.Give(in, g.lo, g.hi, g.group)
			all = append(all, out)
			want = append(want, slices.Clone(out))
			// A map that came out may go in again, and is left alone as well.
			if further, e := ranges.Give(out, g.lo, g.hi, g.group); e == api.OK {
				all = append(all, further)
				want = append(want, slices.Clone(further))
			}
		}
		for i, a := range all {
			if !slices.Equal(a, want[i]) {
				t.Fatalf("P2: a later call changed %v to %v", want[i], a)
			}
			for _, b := range all[:i] {
				if overlap(a, b) {
					t.Fatalf("P2: two lists share memory: %v and %v", a, b)
				}
			}
		}
	}
}

// What the caller writes into a map that came out is not met again.
func TestWrittenInto(t *testing.T) {
	in := roomy(pieces(0, 0, 10, 2, 20, 0))
	for _, g := range gifts() {
		out, e := ranges.Give(in, g.lo, g.hi, g.group)
		want := slices.Clone(out)
		clear(whole(out))
		again, f := ranges.Give(in, g.lo, g.hi, g.group)
		if !slices.Equal(again, want) || e != f {
			t.Errorf("P2: Give(%v, %+v) = %v, %d, and then %v, %d", in, g, want, e, again, f)
		}
	}
}
