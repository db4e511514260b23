package cluster_test

import (
	"slices"
	"strings"
	"testing"

	"handover/api"
	"handover/cluster"
)

// junk is bytes that are no Ask: wrong ones, and every other kind of message,
// as a replica would send it.
func junk(t *testing.T) []string {
	t.Helper()
	ask := askOf(t, set(0, 1, 5, 66))
	list := []string{"", "\x00", "\x01", "x", "\xff", ask[:len(ask)-1], ask + "\x00", ask + ask, strings.Repeat("\x01", 1000), "\x01\x04" + ask[2:], "\x01\x00\x00\x00\x00\x00" + ask[6:]}
	moved := api.Range{Src: 1, Dst: 0, Seq: 1, Lo: 0, Hi: most, Rows: []api.Row{{Key: 5, Value: 66}}}
	commands := []api.Command{
		{}, {Kind: api.Client, Request: set(0, 9, 5, 66)}, {Kind: api.Receive, Range: moved}, {Kind: api.Settle, Peer: 1, Seq: 1},
	}
	for n := range uint32(4) {
		for id := range uint8(3) {
			b := api.Ballot{N: n, Id: id}
			if n == 3 {
				b.N = 1<<32 - 1
			}
			list = append(list,
				bytesOf(t, api.Message{Kind: api.Prepare, Ballot: b}),
				bytesOf(t, api.Message{Kind: api.Promise, Ballot: b}),
				bytesOf(t, api.Message{Kind: api.Reject, Ballot: b}))
			for slot := range uint32(3) {
				list = append(list, bytesOf(t, api.Message{Kind: api.Accepted, Ballot: b, Slot: slot}))
				for _, c := range commands {
					list = append(list,
						bytesOf(t, api.Message{Kind: api.Promise, Ballot: b, Votes: []api.Vote{{Slot: slot, Ballot: b, Command: c}}}),
						bytesOf(t, api.Message{Kind: api.Accept, Ballot: b, Slot: slot, Command: c}),
						bytesOf(t, api.Message{Kind: api.Decide, Slot: slot, Command: c}))
				}
			}
		}
	}
	for seq := uint32(1); seq < 3; seq++ {
		moved.Seq = seq
		list = append(list, bytesOf(t, api.Message{Kind: api.Move, Range: moved}), bytesOf(t, api.Message{Kind: api.Ack, Peer: 1, Seq: seq}))
	}
	return append(list,
		bytesOf(t, api.Message{Kind: api.Decide, Slot: 1<<32 - 1, Command: commands[1]}),
		bytesOf(t, api.Message{Kind: api.Tell, Reply: api.Reply{Seq: 1, Key: 5, Kind: api.Ok}}))
}

// seen is all that can be seen of a cluster, with its packets from one on.
func seen(c *cluster.Cluster, from, groups, size int) string {
	s := told(c.Packets(from))
	for g := range groups {
		for i := range size {
			s += told(c.Log(at(g, i))) + told(c.State(at(g, i)))
		}
	}
	return s
}

// TestJunk: a cluster to which junk comes goes the same way, packet for packet,
// as one in which the same junk is never delivered.
func TestJunk(t *testing.T) {
	all := junk(t)
	for faults := range 3 {
		size := 2*faults + 1
		c, twin := opened(t, 2, faults), opened(t, 2, faults)
		both := func(call func(c *cluster.Cluster)) {
			call(c)
			call(twin)
		}
		next := 0
		deliverAll := func() {
			for ; next < len(c.Packets(0)); next++ {
				both(func(c *cluster.Cluster) { c.Deliver(next) })
			}
		}
		trouble := func(name string) {
			t.Helper()
			for _, data := range all {
				for _, to := range []api.Addr{at(0, 0), at(1, size-1)} {
					both(func(c *cluster.Cluster) { c.Send(to, data) })
					number := len(c.Packets(0)) - 1
					before := seen(c, number, 2, size)
					if e := c.Deliver(number); e != api.OK || seen(c, number, 2, size) != before {
						t.Fatalf("P11: %s: %q to %+v: %d", name, data, to, e)
					}
				}
			}
			next = len(c.Packets(0))
		}
		trouble("at first")
		both(func(c *cluster.Cluster) { c.Tick(at(0, 0)) })
		trouble("while one campaigns")
		for range 3 {
			both(func(c *cluster.Cluster) {
				c.Tick(at(0, 0))
				c.Tick(at(1, 0))
			})
			deliverAll()
		}
		both(func(c *cluster.Cluster) {
			c.Send(at(0, 0), askOf(t, set(0, 1, 5, 7)))
			c.Send(at(0, 0), askOf(t, delegate(0, 2, 5, 9, 1)))
		})
		deliverAll()
		both(func(c *cluster.Cluster) {
			c.Send(at(0, 0), askOf(t, set(0, 1, 3, 7)))
			c.Deliver(len(c.Packets(0)) - 1)
		})
		trouble("while one is proposed")
		for range 6 {
			both(func(c *cluster.Cluster) {
				c.Tick(at(0, 0))
				c.Tick(at(1, 0))
			})
			deliverAll()
		}
		both(func(c *cluster.Cluster) { c.Crash(at(0, 0)) })
		trouble("behind a crash")
		for range 3 {
			both(func(c *cluster.Cluster) { c.Tick(at(0, 0)) })
			deliverAll()
		}
		if seen(c, 0, 2, size) != seen(twin, 0, 2, size) {
			t.Errorf("P11: with %d faults, junk has changed what came later", faults)
		}
		if got := kinds(c.Log(at(0, 0))) + " " + kinds(c.Log(at(1, 0))); got != "CCCS R" {
			t.Errorf("P15: the logs: %s", got)
		}
	}
}

// A right Ask that is not in a replica's own words is still an Ask of a client,
// and goes nowhere at one who does not lead.
func TestAskElsewhere(t *testing.T) {
	x := newWorld(t, 1, 1)
	x.put(at(0, 0), set(0, 1, 5, 1))
	x.led(at(0, 0))
	from := x.count()
	x.put(at(0, 1), set(0, 1, 5, 2))
	x.put(at(0, 2), set(0, 1, 5, 2))
	x.rounds(2)
	if len(x.log(at(0, 0))) != 0 || slices.ContainsFunc(x.w.packets[from:], func(p api.Packet) bool { return p.To.Group == 255 }) {
		t.Errorf("P12: %+v", x.log(at(0, 0)))
	}
}
