package shard_test

import (
	"testing"

	"handover/api"
)

func TestGetSetDelete(t *testing.T) {
	s := begin(t, 0, 1)
	want := begin(t, 0, 1)
	s = says(t, s, get(0, 1, 5), none)
	want.Dups = []api.Reply{reply(0, 1, 5, none)}
	same(t, s, want)
	s = says(t, s, set(0, 2, 5, 50), ok)
	want.Table = rows(5, 50)
	want.Dups = []api.Reply{reply(0, 2, 5, ok)}
	same(t, s, want)
	s = says(t, s, get(0, 3, 5), value(50))
	s = says(t, s, set(0, 4, 5, 0), ok)
	want.Table = rows(5, 0)
	want.Dups = []api.Reply{reply(0, 4, 5, ok)}
	same(t, s, want)
	s = says(t, s, get(0, 5, 5), value(0))
	want.Dups = []api.Reply{reply(0, 5, 5, value(0))}
	same(t, s, want)
	s = says(t, s, remove(0, 6, 5), ok)
	want.Table = nil
	want.Dups = []api.Reply{reply(0, 6, 5, ok)}
	same(t, s, want)
	s = says(t, s, remove(0, 7, 5), ok)
	s = says(t, s, get(0, 8, 5), none)
	want.Dups = []api.Reply{reply(0, 8, 5, none)}
	same(t, s, want)
}

// Rows and dups stand in order, whatever the order in which they came.
func TestOrder(t *testing.T) {
	s := begin(t, 0, 1)
	for i, key := range []uint64{7, most, 3, 0, 9, 5} {
		s = says(t, s, set(uint8(3-i%4), 1, key, uint64(i)), ok)
	}
	for _, client := range []uint8{2, 0, 3, 1} {
		s = says(t, s, get(client, 2, 3), value(2))
	}
	s = says(t, s, remove(0, 3, 7), ok)
	s = says(t, s, remove(0, 3, 0), ok)
	s = says(t, s, remove(0, 3, most), ok)
	want := begin(t, 0, 1)
	want.Table = rows(3, 2, 5, 5, 9, 4)
	want.Dups = []api.Reply{
		reply(0, 3, 0, ok),
		reply(0, 2, 3, value(2)), reply(1, 2, 3, value(2)), reply(2, 2, 3, value(2)), reply(3, 2, 3, value(2)),
		reply(2, 1, 5, ok), reply(0, 3, 7, ok), reply(3, 1, 7, ok), reply(3, 1, 9, ok), reply(0, 3, most, ok), reply(2, 1, most, ok),
	}
	same(t, s, want)
}

func TestAskedAgain(t *testing.T) {
	s := begin(t, 0, 2)
	s = says(t, s, set(1, 5, 8, 80), ok)
	for _, q := range []api.Request{set(1, 5, 8, 80), set(1, 5, 8, 99), get(1, 5, 8), remove(1, 5, 8), delegate(1, 5, 8, 9, 1)} {
		saysOnly(t, s, q, ok)
	}
	for _, seq := range []uint32{1, 4} {
		for _, q := range []api.Request{set(1, seq, 8, 99), get(1, seq, 8), remove(1, seq, 8), delegate(1, seq, 8, 9, 1)} {
			saysOnly(t, s, q, stale)
		}
	}
	// Another client, or another key, has Seqs of its own.
	s = says(t, s, get(0, 1, 8), value(80))
	s = says(t, s, get(2, 4, 8), value(80))
	s = says(t, s, get(1, 1, 7), none)
	s = says(t, s, set(1, 5, 9, 90), ok)
	s = says(t, s, set(1, 6, 8, 81), ok)
	saysOnly(t, s, get(1, 6, 8), ok)
	saysOnly(t, s, get(1, 5, 8), stale)
	// What was read stays as it was read.
	saysOnly(t, s, get(0, 1, 8), value(80))
	saysOnly(t, s, get(2, 4, 8), value(80))
	saysOnly(t, s, get(1, 1, 7), none)
	s = says(t, s, get(1, most32, 8), value(81))
	saysOnly(t, s, set(1, most32, 8, 1), value(81))
	saysOnly(t, s, set(1, most32-1, 8, 1), stale)
	want := begin(t, 0, 2)
	want.Table = rows(8, 81, 9, 90)
	want.Dups = []api.Reply{
		reply(1, 1, 7, none),
		reply(0, 1, 8, value(80)), reply(1, most32, 8, value(81)), reply(2, 4, 8, value(80)),
		reply(1, 5, 9, ok),
	}
	same(t, s, want)
}

// eight is a shard with as many rows as a Set may make.
func eight(t *testing.T) api.Shard {
	t.Helper()
	s := begin(t, 0, 2)
	for key := range uint64(8) {
		s = says(t, s, set(0, 1, 10*key, key), ok)
	}
	return s
}

func TestNinthKey(t *testing.T) {
	for _, key := range []uint64{5, 71, most} {
		s := eight(t)
		s = says(t, s, set(1, 1, key, 1), full)
		if len(s.Table) != 8 {
			t.Errorf("P7: a ninth row: %s", told(s))
		}
		s = says(t, s, set(0, 2, 70, 77), ok) // one that is there
		s = says(t, s, get(0, 3, 70), value(77))
		s = says(t, s, get(0, 3, key), none)
		s = says(t, s, remove(0, 4, key), ok)
		s = says(t, s, remove(0, 4, 70), ok)
		saysOnly(t, s, set(1, 1, key, 1), full) // that was done
		s = says(t, s, set(1, 2, key, 2), ok)
		s = says(t, s, get(0, 5, key), value(2))
		s = says(t, s, set(1, 1, 6, 1), full)
		saysOnly(t, s, set(1, 1, 6, 1), full)
	}
}

// A range may bring more rows than a Set may make.
func TestMoreThanEight(t *testing.T) {
	s := begin(t, 1, 2)
	r := api.Range{Src: 0, Dst: 1, Seq: 1, Lo: 0, Hi: 99}
	for key := range uint64(9) {
		r.Rows = append(r.Rows, api.Row{Key: key, Value: key})
	}
	s = silent(t, s, receive(r))
	s = says(t, s, set(0, 1, 9, 9), full)
	s = says(t, s, set(0, 1, 8, 1), ok)
	s = says(t, s, remove(0, 2, 8), ok)
	s = says(t, s, set(0, 3, 8, 1), full)
	s = says(t, s, remove(0, 2, 7), ok)
	s = says(t, s, set(0, 4, 8, 1), ok)
}

func TestRedirect(t *testing.T) {
	s := begin(t, 0, 4)
	s = says(t, s, set(0, 9, 20, 2), ok)
	s = says(t, s, delegate(0, 10, 20, 29, 2), ok)
	for _, key := range []uint64{20, 25, 29} {
		for _, q := range []api.Request{get(0, 1, key), set(0, 10, key, 1), remove(0, 11, key), delegate(0, 11, key, key, 1), delegate(1, 1, key, 30, 1)} {
			saysOnly(t, s, q, redirect(2))
		}
	}
	for _, key := range []uint64{0, 19, 30, most} {
		says(t, s, get(0, 1, key), none)
	}
	other := begin(t, 3, 4)
	for _, key := range []uint64{0, 19, most} {
		saysOnly(t, other, get(1, 1, key), redirect(0))
		saysOnly(t, other, set(1, 1, key, 1), redirect(0))
		saysOnly(t, other, remove(1, 1, key), redirect(0))
		saysOnly(t, other, delegate(1, 1, key, most, 3), redirect(0))
	}
}

// The group of the least key that is another's is told.
func TestRedirectedDelegate(t *testing.T) {
	s := begin(t, 0, 4)
	s = says(t, s, delegate(0, 1, 20, 29, 3), ok)
	s = says(t, s, delegate(0, 1, 30, 39, 2), ok)
	s = says(t, s, delegate(0, 1, 50, 59, 1), ok)
	for _, c := range []struct {
		lo, hi uint64
		group  uint8
	}{
		{20, 20, 3}, {29, 45, 3}, {30, 45, 2}, {39, most, 2}, {59, 65, 1}, // at the lower end
		{10, 20, 3}, {19, 29, 3}, {40, 50, 1}, {49, 55, 1}, {49, 59, 1}, // at the upper end
		{0, most, 3}, {19, 30, 3}, {10, 45, 3}, {40, 60, 1}, {49, most, 1}, // in its midst
		{25, 35, 3}, {35, 55, 2}, {20, 59, 3},
	} {
		for to := range uint8(4) {
			saysOnly(t, s, delegate(0, 1, c.lo, c.hi, to), redirect(c.group))
		}
	}
	for _, c := range [][2]uint64{{0, 19}, {19, 19}, {40, 49}, {60, most}} {
		says(t, s, delegate(1, 1, c[0], c[1], 1), ok)
	}
}

// Whose the key is comes ahead of what was done with it.
func TestRedirectAheadOfDup(t *testing.T) {
	s := begin(t, 0, 2)
	s = says(t, s, set(0, 5, 10, 1), ok)
	s = says(t, s, delegate(1, 1, 20, 29, 1), ok)
	saysOnly(t, s, delegate(0, 5, 10, 19, 1), ok)
	saysOnly(t, s, delegate(0, 4, 10, 19, 1), stale)
	saysOnly(t, s, delegate(0, 5, 10, 20, 1), redirect(1))
	saysOnly(t, s, delegate(0, 4, 10, 20, 1), redirect(1))
	saysOnly(t, s, delegate(1, 1, 20, 29, 1), redirect(1))
}

func TestWrongRequests(t *testing.T) {
	s := says(t, begin(t, 0, 4), set(1, 1, 5, 1), ok)
	for _, q := range []api.Request{
		{}, {Seq: 1}, {Seq: 1, Kind: 5, Key: 5}, {Seq: 1, Kind: 255, Key: 5}, {Kind: api.Get},
		get(4, 1, 5), get(255, 1, 5), get(1, 0, 5), set(4, 2, 5, 1), set(1, 0, 5, 1), remove(4, 2, 5), remove(1, 0, 5),
		delegate(4, 2, 5, 9, 1), delegate(1, 0, 5, 9, 1), delegate(1, 2, 5, 4, 1), delegate(1, 2, most, 0, 1), delegate(1, 2, 5, 9, 4), delegate(1, 2, 5, 9, 255),
		{Client: 1, Seq: 2, Kind: api.Get, Key: 5, Value: 1}, {Client: 1, Seq: 2, Kind: api.Get, Key: 5, Hi: 9}, {Client: 1, Seq: 2, Kind: api.Get, Key: 5, To: 1},
		{Client: 1, Seq: 2, Kind: api.Set, Key: 5, Hi: 9}, {Client: 1, Seq: 2, Kind: api.Set, Key: 5, To: 1},
		{Client: 1, Seq: 2, Kind: api.Delete, Key: 5, Value: 1}, {Client: 1, Seq: 2, Kind: api.Delete, Key: 5, Hi: 5}, {Client: 1, Seq: 2, Kind: api.Delete, Key: 5, To: 1},
		{Client: 1, Seq: 2, Kind: api.Delegate, Key: 5, Hi: 9, To: 1, Value: 1},
	} {
		idle(t, s, api.Command{Kind: api.Client, Request: q})
		// Nor is there a Redirect.
		idle(t, begin(t, 1, 4), api.Command{Kind: api.Client, Request: q})
	}
}

func TestNop(t *testing.T) {
	for _, s := range []api.Shard{begin(t, 0, 1), begin(t, 3, 4), eight(t), busy(t)} {
		idle(t, s, api.Command{})
		idle(t, s, api.Command{Kind: api.Nop, Request: set(1, 99, 5, 5), Range: api.Range{Src: 2, Dst: 1, Seq: 1, Hi: 9}, Peer: 1, Seq: 99})
		for _, kind := range []uint8{4, 5, 255} {
			idle(t, s, api.Command{Kind: kind, Request: set(1, 99, 5, 5), Range: api.Range{Src: 2, Dst: 1, Seq: 1, Hi: 9}, Peer: 1, Seq: 99})
		}
	}
}
