package shard

import (
	"slices"

	"handover/api"
	"handover/right"
)

func ask(s *api.Shard, q api.Request) api.Reply {
	if !right.Request(q) {
		return api.Reply{}
	}
	reply := api.Reply{Client: q.Client, Seq: q.Seq, Key: q.Key}
	// Only a Delegate has a Hi, and never below its Key.
	if g, found := stranger(s, q.Key, max(q.Key, q.Hi)); found {
		reply.Kind, reply.Group = api.Redirect, g
		return reply
	}
	if i, known := dup(s, reply); known && s.Dups[i].Seq >= q.Seq {
		if s.Dups[i].Seq == q.Seq {
			return s.Dups[i]
		}
		reply.Kind = api.Stale
		return reply
	}
	return do(s, q, reply)
}

// do is given the reply without its Kind, and what goes with that.
func do(s *api.Shard, q api.Request, reply api.Reply) api.Reply {
	switch q.Kind {
	case api.Get:
		reply.Kind = api.Value
		reply.Value, reply.Found = get(s, q.Key)
	case api.Set:
		reply.Kind = set(s, q.Key, q.Value)
	case api.Delete:
		reply.Kind = remove(s, q.Key)
	case api.Delegate:
		return delegate(s, q, reply)
	}
	remember(s, reply)
	return reply
}

func get(s *api.Shard, key uint64) (uint64, bool) {
	i, found := row(s, key)
	if !found {
		return 0, false
	}
	return s.Table[i].Value, true
}

func set(s *api.Shard, key, value uint64) uint8 {
	i, found := row(s, key)
	if found {
		s.Table[i].Value = value
		return api.Ok
	}
	if len(s.Table) >= api.MaxTable {
		return api.Full
	}
	s.Table = slices.Insert(s.Table, i, api.Row{Key: key, Value: value})
	return api.Ok
}

func remove(s *api.Shard, key uint64) uint8 {
	if i, found := row(s, key); found {
		s.Table = slices.Delete(s.Table, i, i+1)
	}
	return api.Ok
}
