package shard_test

import (
	"testing"

	"handover/api"
)

func TestReceive(t *testing.T) {
	s := begin(t, 1, 3)
	s = silent(t, s, receive(api.Range{
		Src: 0, Dst: 1, Seq: 1, Lo: 10, Hi: 19,
		Rows: rows(10, 1, 15, 2, 19, 3),
		Dups: []api.Reply{reply(0, 3, 10, ok), reply(3, 4, 10, none), reply(2, 1, 19, full)},
	}))
	want := begin(t, 1, 3)
	want.Map = pieces(0, 0, 10, 1, 20, 0)
	want.In[0] = 1
	want.Table = rows(10, 1, 15, 2, 19, 3)
	want.Dups = []api.Reply{reply(0, 3, 10, ok), reply(3, 4, 10, none), reply(2, 1, 19, full)}
	same(t, s, want)
	saysOnly(t, s, get(0, 1, 9), redirect(0))
	saysOnly(t, s, get(0, 1, 20), redirect(0))
	saysOnly(t, s, get(0, 3, 10), ok)
	saysOnly(t, s, get(0, 2, 10), stale)
	saysOnly(t, s, set(3, 4, 10, 5), none)
	says(t, s, get(0, 4, 10), value(1))
	says(t, s, get(0, 1, 15), value(2))
	says(t, s, get(2, 2, 19), value(3))
}

// What the shard had for these keys is gone; what it has for others stays.
func TestReceiveOverOthers(t *testing.T) {
	s := silent(t, begin(t, 1, 3), receive(api.Range{
		Src: 0, Dst: 1, Seq: 1, Lo: 10, Hi: 39,
		Rows: rows(19, 1, 20, 2, 25, 3, 29, 4, 30, 5),
		Dups: []api.Reply{reply(0, 9, 19, ok), reply(3, 9, 20, ok), reply(1, 9, 25, none), reply(1, 9, 29, ok), reply(1, 9, 30, full)},
	}))
	s = silent(t, s, receive(api.Range{
		Src: 2, Dst: 1, Seq: 1, Lo: 20, Hi: 29,
		Rows: rows(21, 6, 25, 7),
		Dups: []api.Reply{reply(1, 2, 20, ok), reply(1, 1, 22, none)},
	}))
	want := begin(t, 1, 3)
	want.Map = pieces(0, 0, 10, 1, 40, 0)
	want.In = []uint32{1, 0, 1}
	want.Table = rows(19, 1, 21, 6, 25, 7, 30, 5)
	want.Dups = []api.Reply{reply(0, 9, 19, ok), reply(1, 2, 20, ok), reply(1, 1, 22, none), reply(1, 9, 30, full)}
	same(t, s, want)
	s = silent(t, s, receive(api.Range{Src: 0, Dst: 1, Seq: 2, Lo: 0, Hi: most}))
	want.Map = pieces(0, 1)
	want.In = []uint32{2, 0, 1}
	want.Table, want.Dups = nil, nil
	same(t, s, want)
}

func TestReceiveEnds(t *testing.T) {
	for _, c := range []struct {
		lo, hi uint64
		m      []api.Piece
	}{
		{0, most, pieces(0, 1)}, {0, 0, pieces(0, 1, 1, 0)}, {most, most, pieces(0, 0, most, 1)}, {0, most - 1, pieces(0, 1, most, 0)},
	} {
		r := api.Range{Src: 0, Dst: 1, Seq: 1, Lo: c.lo, Hi: c.hi, Rows: rows(c.hi, 1), Dups: []api.Reply{reply(0, 1, c.lo, ok)}}
		want := begin(t, 1, 2)
		want.Map, want.In[0], want.Table, want.Dups = c.m, 1, r.Rows, r.Dups
		same(t, silent(t, begin(t, 1, 2), receive(r)), want)
	}
}

func TestReceiveSeq(t *testing.T) {
	s := begin(t, 1, 4)
	at := func(src uint8, seq uint32) api.Command {
		return receive(api.Range{Src: src, Dst: 1, Seq: seq, Lo: uint64(seq), Hi: uint64(seq), Rows: rows(uint64(seq), uint64(src))})
	}
	for _, src := range []uint8{0, 2, 3} {
		for _, seq := range []uint32{2, 3, most32} {
			idle(t, s, at(src, seq))
		}
	}
	for want := uint32(1); want <= 3; want++ {
		for _, src := range []uint8{0, 2, 3} {
			s = silent(t, s, at(src, want))
			if s.In[src] != want {
				t.Fatalf("P7: the Seqs that came in: %v", s.In)
			}
			for _, seq := range []uint32{0, 1, want - 1, want, want + 2, want + 3, most32} {
				if seq != want+1 {
					idle(t, s, at(src, seq))
				}
			}
		}
	}
	if s.In[1] != 0 {
		t.Errorf("P7: the Seqs that came in: %v", s.In)
	}
}

func TestReceiveNot(t *testing.T) {
	s := begin(t, 1, 3)
	s = silent(t, s, receive(api.Range{Src: 0, Dst: 1, Seq: 1, Lo: 5, Hi: 8, Rows: rows(5, 1), Dups: []api.Reply{reply(0, 1, 5, ok)}}))
	good := api.Range{Src: 2, Dst: 1, Seq: 1, Lo: 5, Hi: 9, Rows: rows(6, 1, 7, 1), Dups: []api.Reply{reply(1, 1, 6, ok), reply(2, 1, 6, none)}}
	silent(t, s, receive(good))
	for name, spoil := range map[string]func(*api.Range){
		"Dst 0":               func(r *api.Range) { r.Dst = 0 },
		"Dst 2":               func(r *api.Range) { r.Dst = 2 },
		"Dst 3":               func(r *api.Range) { r.Dst = 3 },
		"Src is this group":   func(r *api.Range) { r.Src = 1 },
		"no such Src":         func(r *api.Range) { r.Src = 3 },
		"Seq 2":               func(r *api.Range) { r.Seq = 2 },
		"Seq of another":      func(r *api.Range) { r.Src = 0 },
		"Seq 0":               func(r *api.Range) { r.Seq = 0 },
		"Src 4":               func(r *api.Range) { r.Src = 4 },
		"Src 255":             func(r *api.Range) { r.Src = 255 },
		"Dst 255":             func(r *api.Range) { r.Dst = 255 },
		"Lo above Hi":         func(r *api.Range) { r.Lo, r.Hi, r.Rows, r.Dups = 9, 8, nil, nil },
		"a row below Lo":      func(r *api.Range) { r.Rows = rows(4, 1) },
		"a row above Hi":      func(r *api.Range) { r.Rows = rows(5, 1, 10, 1) },
		"rows that fall":      func(r *api.Range) { r.Rows = rows(7, 1, 6, 1) },
		"a row twice":         func(r *api.Range) { r.Rows = rows(7, 1, 7, 1) },
		"256 rows":            func(r *api.Range) { r.Hi, r.Rows = most, manyRows(256) },
		"a dup below Lo":      func(r *api.Range) { r.Dups = []api.Reply{reply(1, 1, 4, ok)} },
		"a dup above Hi":      func(r *api.Range) { r.Dups = []api.Reply{reply(1, 1, 10, ok)} },
		"dups that fall":      func(r *api.Range) { r.Dups = []api.Reply{reply(1, 1, 7, ok), reply(2, 1, 6, ok)} },
		"clients that fall":   func(r *api.Range) { r.Dups = []api.Reply{reply(2, 1, 6, ok), reply(1, 1, 6, ok)} },
		"a dup twice":         func(r *api.Range) { r.Dups = []api.Reply{reply(1, 1, 6, ok), reply(1, 2, 6, ok)} },
		"a Redirect":          func(r *api.Range) { r.Dups = []api.Reply{reply(1, 1, 6, redirect(0))} },
		"a Stale":             func(r *api.Range) { r.Dups = []api.Reply{reply(1, 1, 6, stale)} },
		"a dup of no kind":    func(r *api.Range) { r.Dups = []api.Reply{reply(1, 1, 6, api.Reply{})} },
		"a dup with Seq 0":    func(r *api.Range) { r.Dups = []api.Reply{reply(1, 0, 6, ok)} },
		"a dup of client 4":   func(r *api.Range) { r.Dups = []api.Reply{reply(4, 1, 6, ok)} },
		"an Ok with a Value":  func(r *api.Range) { r.Dups[0].Value = 1 },
		"not Found, a Value":  func(r *api.Range) { r.Dups[1].Value = 1 },
		"256 dups":            func(r *api.Range) { r.Hi, r.Dups = most, manyDups(256) },
		"nothing but its Dst": func(r *api.Range) { *r = api.Range{Dst: 1} },
	} {
		t.Run(name, func(t *testing.T) {
			r := good
			r.Rows, r.Dups = rows(6, 1, 7, 1), []api.Reply{reply(1, 1, 6, ok), reply(2, 1, 6, none)}
			spoil(&r)
			idle(t, s, receive(r))
		})
	}
}

func manyRows(n int) []api.Row {
	var list []api.Row
	for i := range uint64(n) {
		list = append(list, api.Row{Key: 100 + i, Value: i})
	}
	return list
}

func manyDups(n int) []api.Reply {
	var list []api.Reply
	for i := range n {
		list = append(list, reply(uint8(i%4), 1, uint64(100+i/4), ok))
	}
	return list
}

func TestReceiveMany(t *testing.T) {
	r := api.Range{Src: 0, Dst: 1, Seq: 1, Hi: most, Rows: manyRows(255), Dups: manyDups(255)}
	want := begin(t, 1, 2)
	want.Map, want.In[0], want.Table, want.Dups = pieces(0, 1), 1, r.Rows, r.Dups
	same(t, silent(t, begin(t, 1, 2), receive(r)), want)
}

// single brings the key 10 * seq alone.
func single(seq uint32) api.Command {
	key := 10 * uint64(seq)
	return receive(api.Range{Src: 0, Dst: 1, Seq: seq, Lo: key, Hi: key})
}

func TestThousandPieces(t *testing.T) {
	s := begin(t, 1, 2)
	for seq := uint32(1); seq <= 499; seq++ {
		s = silent(t, s, single(seq))
	}
	if len(s.Map) != 999 || s.In[0] != 499 {
		t.Fatalf("P7: %d pieces behind %d", len(s.Map), s.In[0])
	}
	idle(t, s, single(500)) // 1001
	top := receive(api.Range{Src: 0, Dst: 1, Seq: 500, Lo: most, Hi: most, Rows: rows(most, 1)})
	s = silent(t, s, top)
	if len(s.Map) != 1000 || s.In[0] != 500 || len(s.Table) != 1 {
		t.Fatalf("P7: %d pieces behind %d", len(s.Map), s.In[0])
	}
	idle(t, s, single(501)) // 1002
	idle(t, s, receive(api.Range{Src: 0, Dst: 1, Seq: 501, Lo: 0, Hi: 0}))
	// One that makes no more pieces is taken in all the same.
	s = silent(t, s, receive(api.Range{Src: 0, Dst: 1, Seq: 501, Lo: 11, Hi: 12}))
	if len(s.Map) != 1000 || s.In[0] != 501 {
		t.Fatalf("P7: %d pieces behind %d", len(s.Map), s.In[0])
	}
	s = silent(t, s, receive(api.Range{Src: 0, Dst: 1, Seq: 502, Lo: 13, Hi: 19}))
	if len(s.Map) != 998 || s.In[0] != 502 {
		t.Fatalf("P7: %d pieces behind %d", len(s.Map), s.In[0])
	}
}

// A range that goes to another group and back comes in as it went out.
func TestThereAndBack(t *testing.T) {
	a, b := begin(t, 0, 2), begin(t, 1, 2)
	a = says(t, a, set(0, 1, 10, 1), ok)
	a = says(t, a, set(0, 1, 20, 2), ok)
	a = says(t, a, delegate(1, 1, 10, 19, 1), ok)
	b = silent(t, b, receive(a.Out[1].Queue[0]))
	a = silent(t, a, settle(1, 1))
	saysOnly(t, a, set(0, 1, 10, 1), redirect(1))
	saysOnly(t, b, set(0, 1, 10, 1), ok)
	saysOnly(t, b, delegate(1, 1, 10, 19, 0), ok) // that was done
	b = says(t, b, set(0, 2, 10, 3), ok)
	b = says(t, b, delegate(1, 2, 10, 19, 0), ok)
	a = silent(t, a, receive(b.Out[0].Queue[0]))
	want := begin(t, 0, 2)
	want.Table = rows(10, 3, 20, 2)
	want.Dups = []api.Reply{reply(0, 2, 10, ok), reply(1, 2, 10, ok), reply(0, 1, 20, ok)}
	want.In[1] = 1
	want.Out[1].Next = 2
	same(t, a, want)
}
