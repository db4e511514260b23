package shard

import (
	"slices"

	"handover/api"
	"handover/ranges"
	"handover/right"
)

func delegate(s *api.Shard, q api.Request, reply api.Reply) api.Reply {
	given, fits := parted(s, q)
	if !fits {
		reply.Kind = api.Full
		remember(s, reply)
		return reply
	}
	reply.Kind = api.Ok
	// The reply goes with its key, so it is remembered ahead of the handing over.
	remember(s, reply)
	handOver(s, q)
	s.Map = given
	return reply
}

// parted is the map of keys that a Delegate makes, if there is room for it and
// for its range.
func parted(s *api.Shard, q api.Request) ([]api.Piece, bool) {
	if q.To == s.Group || q.To >= s.Groups || len(s.Out[q.To].Queue) >= api.MaxQueue {
		return nil, false
	}
	given, e := ranges.Give(s.Map, q.Key, q.Hi, q.To)
	return given, e == api.OK && len(given) <= api.MaxPieces
}

func handOver(s *api.Shard, q api.Request) {
	lane := &s.Out[q.To]
	r := api.Range{Src: s.Group, Dst: q.To, Seq: lane.Next, Lo: q.Key, Hi: q.Hi}
	below, rows, above := split(s.Table, rowKey, r.Lo, r.Hi)
	s.Table, r.Rows = slices.Concat(below, above), rows
	ahead, dups, behind := split(s.Dups, dupKey, r.Lo, r.Hi)
	s.Dups, r.Dups = slices.Concat(ahead, behind), dups
	lane.Queue = append(lane.Queue, r)
	lane.Next++
}

func receive(s *api.Shard, r api.Range) {
	if !right.Range(r) || !isNext(s, r) {
		return
	}
	given, e := ranges.Give(s.Map, r.Lo, r.Hi, s.Group)
	if e != api.OK {
		return
	}
	s.Map = given
	s.In[r.Src] = r.Seq
	below, _, above := split(s.Table, rowKey, r.Lo, r.Hi)
	s.Table = slices.Concat(below, r.Rows, above)
	ahead, _, behind := split(s.Dups, dupKey, r.Lo, r.Hi)
	s.Dups = slices.Concat(ahead, r.Dups, behind)
}

// isNext tells whether a range is the one that this group waits for.
func isNext(s *api.Shard, r api.Range) bool {
	return r.Dst == s.Group && r.Src != s.Group && r.Src < s.Groups && r.Seq == s.In[r.Src]+1
}

func settle(s *api.Shard, peer uint8, seq uint32) {
	if peer >= s.Groups {
		return
	}
	lane := &s.Out[peer]
	lane.Queue = slices.DeleteFunc(lane.Queue, func(r api.Range) bool { return r.Seq <= seq })
}
