package shard_test

import (
	"fmt"
	"testing"

	"handover/api"
	"handover/shard"
)

const (
	most32 = 1<<32 - 1
	most   = 1<<64 - 1
)

// told says all of a shard, nil and empty lists alike.
func told(s api.Shard) string { return fmt.Sprintf("%+v", s) }

func begin(t *testing.T, group, groups int) api.Shard {
	t.Helper()
	s, e := shard.Begin(group, groups)
	if e != api.OK {
		t.Fatalf("P6: Begin(%d, %d): %d", group, groups, e)
	}
	return s
}

// apply looks, beside doing a command, after what P2 says of every call.
func apply(t *testing.T, s api.Shard, c api.Command) (api.Shard, api.Reply) {
	t.Helper()
	before, command := whole(s), whole(c)
	next, reply := shard.Apply(s, c)
	if whole(s) != before {
		t.Fatalf("P2: Apply of %+v wrote into the shard\n%s, now\n%s", c, before, whole(s))
	}
	if whole(c) != command {
		t.Fatalf("P2: Apply wrote into the command\n%s, now\n%s", command, whole(c))
	}
	checkNoneShared(t, s, c, next)
	return next, reply
}

// says asks, and takes the Client, Seq and Key of the reply from the request.
func says(t *testing.T, s api.Shard, q api.Request, want api.Reply) api.Shard {
	t.Helper()
	want.Client, want.Seq, want.Key = q.Client, q.Seq, q.Key
	next, got := apply(t, s, api.Command{Kind: api.Client, Request: q})
	if got != want {
		t.Fatalf("P7: %+v\n got %+v\nwant %+v\n  in %s", q, got, want, told(s))
	}
	return next
}

// saysOnly asks for what changes nothing.
func saysOnly(t *testing.T, s api.Shard, q api.Request, want api.Reply) {
	t.Helper()
	if next := says(t, s, q, want); told(next) != told(s) {
		t.Fatalf("P7: %+v changed\n%s to\n%s", q, told(s), told(next))
	}
}

// idle asks that a command does nothing, and that nothing is told.
func idle(t *testing.T, s api.Shard, c api.Command) {
	t.Helper()
	next, reply := apply(t, s, c)
	if reply != (api.Reply{}) {
		t.Fatalf("P7: %+v told %+v", c, reply)
	}
	if told(next) != told(s) {
		t.Fatalf("P7: %+v changed\n%s to\n%s", c, told(s), told(next))
	}
}

// silent asks that a command that is no Client's tells nothing.
func silent(t *testing.T, s api.Shard, c api.Command) api.Shard {
	t.Helper()
	next, reply := apply(t, s, c)
	if reply != (api.Reply{}) {
		t.Fatalf("P7: %+v told %+v", c, reply)
	}
	return next
}

func same(t *testing.T, got, want api.Shard) {
	t.Helper()
	if told(got) != told(want) {
		t.Fatalf("P7:\n got %s\nwant %s", told(got), told(want))
	}
}

func get(client uint8, seq uint32, key uint64) api.Request {
	return api.Request{Client: client, Seq: seq, Kind: api.Get, Key: key}
}

func set(client uint8, seq uint32, key, value uint64) api.Request {
	return api.Request{Client: client, Seq: seq, Kind: api.Set, Key: key, Value: value}
}

func remove(client uint8, seq uint32, key uint64) api.Request {
	return api.Request{Client: client, Seq: seq, Kind: api.Delete, Key: key}
}

func delegate(client uint8, seq uint32, lo, hi uint64, to uint8) api.Request {
	return api.Request{Client: client, Seq: seq, Kind: api.Delegate, Key: lo, Hi: hi, To: to}
}

func receive(r api.Range) api.Command {
	return api.Command{Kind: api.Receive, Range: r}
}

func settle(peer uint8, seq uint32) api.Command {
	return api.Command{Kind: api.Settle, Peer: peer, Seq: seq}
}

var (
	ok    = api.Reply{Kind: api.Ok}
	full  = api.Reply{Kind: api.Full}
	stale = api.Reply{Kind: api.Stale}
	none  = api.Reply{Kind: api.Value}
)

func value(v uint64) api.Reply {
	return api.Reply{Kind: api.Value, Found: true, Value: v}
}

func redirect(group uint8) api.Reply {
	return api.Reply{Kind: api.Redirect, Group: group}
}

// reply is one as it is remembered.
func reply(client uint8, seq uint32, key uint64, p api.Reply) api.Reply {
	p.Client, p.Seq, p.Key = client, seq, key
	return p
}

// pieces makes a map from From, Group, From, Group and so on.
func pieces(v ...uint64) []api.Piece {
	var list []api.Piece
	for i := 0; i < len(v); i += 2 {
		list = append(list, api.Piece{From: v[i], Group: uint8(v[i+1])})
	}
	return list
}

// rows makes a table from Key, Value, Key, Value and so on.
func rows(v ...uint64) []api.Row {
	var list []api.Row
	for i := 0; i < len(v); i += 2 {
		list = append(list, api.Row{Key: v[i], Value: v[i+1]})
	}
	return list
}
