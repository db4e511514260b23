package shard_test

import (
	"maps"
	"math/rand/v2"
	"slices"
	"testing"

	"handover/api"
)

// A model is a group told key by key, for the keys 0 to 15; the last of them
// stands for all above it too.
type model struct {
	group, groups uint8
	owner         [16]uint8
	values        map[uint64]uint64
	dups          map[asked]api.Reply
	out           []api.Lane
	in            []uint32
}

type asked struct {
	key    uint64
	client uint8
}

func newModel(group, groups uint8) *model {
	m := &model{group: group, groups: groups, values: map[uint64]uint64{}, dups: map[asked]api.Reply{}}
	for range groups {
		m.out = append(m.out, api.Lane{Next: 1})
		m.in = append(m.in, 0)
	}
	return m
}

// last is the model's key for a Hi.
func last(hi uint64) uint64 { return min(hi, 15) }

func (m *model) pieces(owner [16]uint8) []api.Piece {
	var list []api.Piece
	for key, g := range owner {
		if key == 0 || owner[key-1] != g {
			list = append(list, api.Piece{From: uint64(key), Group: g})
		}
	}
	return list
}

func (m *model) with(lo, hi uint64, group uint8) [16]uint8 {
	owner := m.owner
	for key := lo; key <= last(hi); key++ {
		owner[key] = group
	}
	return owner
}

// take tells the rows and dups from lo to hi.
func (m *model) take(lo, hi uint64) ([]api.Row, []api.Reply) {
	var table []api.Row
	var dups []api.Reply
	for key := lo; key <= last(hi); key++ {
		if v, found := m.values[key]; found {
			table = append(table, api.Row{Key: key, Value: v})
		}
		for client := range uint8(4) {
			if p, found := m.dups[asked{key, client}]; found {
				dups = append(dups, p)
			}
		}
	}
	return table, dups
}

func (m *model) drop(lo, hi uint64) {
	maps.DeleteFunc(m.values, func(key, _ uint64) bool { return lo <= key && key <= hi })
	maps.DeleteFunc(m.dups, func(a asked, _ api.Reply) bool { return lo <= a.key && a.key <= hi })
}

func (m *model) shard() api.Shard {
	s := api.Shard{Group: m.group, Groups: m.groups, Map: m.pieces(m.owner), Out: m.out, In: m.in}
	s.Table, s.Dups = m.take(0, most)
	return s
}

// ask is given right requests alone.
func (m *model) ask(q api.Request) api.Reply {
	p := reply(q.Client, q.Seq, q.Key, ok)
	hi := q.Key
	if q.Kind == api.Delegate {
		hi = q.Hi
	}
	for key := q.Key; key <= last(hi); key++ {
		if m.owner[key] != m.group {
			p.Kind, p.Group = api.Redirect, m.owner[key]
			return p
		}
	}
	at := asked{q.Key, q.Client}
	if old := m.dups[at]; old.Seq > q.Seq {
		p.Kind = api.Stale
		return p
	} else if old.Seq == q.Seq {
		return old
	}
	v, found := m.values[q.Key]
	switch {
	case q.Kind == api.Get:
		p.Kind, p.Found, p.Value = api.Value, found, v
	case q.Kind == api.Delete:
		delete(m.values, q.Key)
	case q.Kind == api.Set && !found && len(m.values) >= 8:
		p.Kind = api.Full
	case q.Kind == api.Set:
		m.values[q.Key] = q.Value
	case q.To == m.group || q.To >= m.groups || len(m.out[q.To].Queue) >= 4 || len(m.pieces(m.with(q.Key, q.Hi, q.To))) > 8:
		p.Kind = api.Full
	}
	m.dups[at] = p
	if q.Kind == api.Delegate && p.Kind == api.Ok {
		m.handOver(q)
	}
	return p
}

func (m *model) handOver(q api.Request) {
	r := api.Range{Src: m.group, Dst: q.To, Seq: m.out[q.To].Next, Lo: q.Key, Hi: q.Hi}
	r.Rows, r.Dups = m.take(r.Lo, r.Hi)
	m.drop(r.Lo, r.Hi)
	m.owner = m.with(r.Lo, r.Hi, q.To)
	m.out[q.To].Queue = append(m.out[q.To].Queue, r)
	m.out[q.To].Next++
}

// receive is given right ranges alone.
func (m *model) receive(r api.Range) {
	if r.Dst != m.group || r.Src == m.group || r.Src >= m.groups || r.Seq != m.in[r.Src]+1 {
		return
	}
	m.in[r.Src]++
	m.drop(r.Lo, r.Hi)
	m.owner = m.with(r.Lo, r.Hi, m.group)
	for _, row := range r.Rows {
		m.values[row.Key] = row.Value
	}
	for _, p := range r.Dups {
		m.dups[asked{p.Key, p.Client}] = p
	}
}

func (m *model) settle(peer uint8, seq uint32) {
	if peer < m.groups {
		m.out[peer].Queue = slices.DeleteFunc(slices.Clone(m.out[peer].Queue), func(r api.Range) bool { return r.Seq <= seq })
	}
}

func (m *model) apply(c api.Command) api.Reply {
	switch c.Kind {
	case api.Client:
		return m.ask(c.Request)
	case api.Receive:
		m.receive(c.Range)
	case api.Settle:
		m.settle(c.Peer, c.Seq)
	}
	return api.Reply{}
}

func someRequest(r *rand.Rand) api.Request {
	q := api.Request{Client: uint8(r.IntN(4)), Seq: uint32(1 + r.IntN(60)), Key: r.Uint64N(16)}
	switch q.Kind = uint8(1 + r.IntN(4)); q.Kind {
	case api.Set:
		q.Value = r.Uint64N(3)
	case api.Delegate:
		q.Hi, q.To = q.Key+r.Uint64N(min(5, 16-q.Key)), uint8(r.IntN(4))
		if q.Hi == 15 {
			q.Hi = most
		}
	}
	return q
}

// someCommand hands ranges on from the other groups' lanes, mostly.
func someCommand(r *rand.Rand, all []*model, m *model) api.Command {
	switch n := r.IntN(10); {
	case n < 6:
		return api.Command{Kind: api.Client, Request: someRequest(r)}
	case n < 9:
		from := all[r.IntN(len(all))]
		queue := from.out[r.IntN(len(all))].Queue
		if n < 8 {
			queue = from.out[m.group].Queue
		}
		if len(queue) > 0 {
			return receive(queue[r.IntN(len(queue))])
		}
		return api.Command{}
	}
	peer := uint8(r.IntN(5))
	if int(peer) < len(all) && r.IntN(4) > 0 {
		return settle(peer, all[peer].in[m.group])
	}
	return settle(peer, uint32(r.IntN(3)))
}

func TestAgainstModel(t *testing.T) {
	for seed := range uint64(40) {
		r := rand.New(rand.NewPCG(seed, 3))
		groups := 1 + int(seed%4)
		var all []*model
		var shards []api.Shard
		for g := range groups {
			all = append(all, newModel(uint8(g), uint8(groups)))
			shards = append(shards, begin(t, g, groups))
		}
		for range 300 {
			g := r.IntN(groups)
			c := someCommand(r, all, all[g])
			before := told(shards[g])
			next, got := apply(t, shards[g], c)
			want := all[g].apply(c)
			if got != want {
				t.Fatalf("P7: seed %d: %+v in\n%s\n got %+v\nwant %+v", seed, c, before, got, want)
			}
			if told(next) != told(all[g].shard()) {
				t.Fatalf("P7: seed %d: %+v in\n%s\n got %s\nwant %s", seed, c, before, told(next), told(all[g].shard()))
			}
			shards[g] = next
		}
	}
}
