package cluster

import (
	"fmt"
	"math"
	"math/rand"
	"testing"

	"handover/api"
	"handover/wire"
)

// kept tells all that the replicas keep.
func kept(c *Cluster) string {
	s := ""
	for _, group := range c.groups {
		for _, r := range group {
			s += fmt.Sprintf("\n%+v", *r)
		}
	}
	return s
}

// rounds are those of P15, which began at the packet with this number.
func rounds(c *Cluster, n, next int) int {
	for range n {
		for g := range c.groups {
			c.Tick(api.Addr{Group: uint8(g)})
		}
		for ; next < len(c.packets); next++ {
			c.Deliver(next)
		}
	}
	return next
}

func send(t *testing.T, c *Cluster, q api.Request) int {
	t.Helper()
	data, e := wire.Marshal(api.Message{Kind: api.Ask, Request: q})
	if e != api.OK {
		t.Fatalf("no right request: %+v", q)
	}
	number, e := c.Send(api.Addr{}, data)
	if e != api.OK {
		t.Fatalf("Send: %v", e)
	}
	return number
}

// answersInTheEnd asks for what P15 promises of a new Ask behind anything.
func answersInTheEnd(t *testing.T, c *Cluster, name string) {
	t.Helper()
	next := rounds(c, 15, len(c.packets))
	q := api.Request{Client: 3, Seq: 1000, Kind: api.Get, Key: 5}
	number := send(t, c, q)
	rounds(c, 2, next)
	for _, p := range c.Packets(number) {
		m, _ := wire.Parse(p.Data)
		if m.Kind == api.Tell && m.Reply.Client == q.Client && m.Reply.Seq == q.Seq && m.Reply.Kind == api.Value {
			return
		}
	}
	t.Errorf("P15: %s: no Tell is among %q", name, c.Packets(number))
}

// Where a tick and a crash leave all that the replicas keep as it was, so do
// 4294967295 of them in turn, or however many there are.
func TestTicksAndCrashesOfOneAlone(t *testing.T) {
	for groups := 1; groups <= api.MaxGroups; groups++ {
		for _, commands := range []int{0, 1, 2, 30, 50} {
			name := fmt.Sprintf("%d groups, %d commands", groups, commands)
			c, _ := New(groups, 0)
			rounds(c, 1, 0)
			for i := range commands {
				c.Deliver(send(t, c, api.Request{Client: uint8(i % 3), Seq: uint32(i + 1), Kind: api.Set, Key: 5, Value: uint64(i)}))
			}
			turnsUseNothingUp(t, c, name)
			// The replies of commands that come back are told again. Else a turn
			// costs no packet, so that the network would never be full.
			if commands == 0 && len(c.packets) != 0 {
				t.Errorf("P15: %s: there are packets: %q", name, c.packets)
			}
			answersInTheEnd(t, c, name)
			if log := c.Log(api.Addr{}); len(log) != commands+1 {
				t.Errorf("P10: %s: the log has %d", name, len(log))
			}
		}
	}
}

// turnsUseNothingUp lets replica 0 of each group tick and crash in turn.
func turnsUseNothingUp(t *testing.T, c *Cluster, name string) {
	t.Helper()
	before := ""
	for turn := range 4 {
		for g := range c.groups {
			c.Tick(api.Addr{Group: uint8(g)})
			c.Crash(api.Addr{Group: uint8(g)})
		}
		now := kept(c)
		if turn > 0 && now != before {
			t.Fatalf("P15: %s: a tick and a crash use something up: it was%s\nand is%s", name, before, now)
		}
		before = now
	}
}

// Nothing hangs on the ballot of one who is alone, not even if it is the last
// one that there is.
func TestLastBallotOfOneAlone(t *testing.T) {
	for _, n := range []uint32{0, 1, math.MaxUint32 - 1, math.MaxUint32} {
		c, _ := New(1, 0)
		rounds(c, 1, 0)
		c.Deliver(send(t, c, api.Request{Seq: 1, Kind: api.Set, Key: 5, Value: 6}))
		r := c.groups[0][0]
		r.written.ballot = api.Ballot{N: n}
		c.Crash(r.at)
		answersInTheEnd(t, c, fmt.Sprintf("ballot %d", n))
		if log := c.Log(r.at); len(log) != 2 || log[0].Request.Kind != api.Set || log[1].Request.Kind != api.Get {
			t.Errorf("P10: ballot %d: the log is %+v", n, log)
		}
	}
}

// Where there are others, the network is full (and P15 asks for nothing) long
// before there is no ballot left: each one has cost a packet to every other.
func TestBallotsCostPackets(t *testing.T) {
	for faults := 1; faults <= api.MaxFaults; faults++ {
		for _, ticks := range []int{2, 10, 50} {
			size := 2*faults + 1
			name := fmt.Sprintf("%d replicas, %d of 100 calls are ticks", size, ticks)
			c, _ := New(1, faults)
			chance := rand.New(rand.NewSource(int64(ticks)))
			for len(c.packets) < api.MaxPackets {
				a := api.Addr{Replica: uint8(chance.Intn(size))}
				if chance.Intn(100) < ticks || len(c.packets) == 0 {
					c.Tick(a)
					if chance.Intn(2) == 0 {
						c.Crash(a)
					}
				} else {
					// One of the last few: they are the most likely to be of use.
					c.Deliver(len(c.packets) - 1 - chance.Intn(min(len(c.packets), 20)))
				}
				bounded(t, c, name)
			}
		}
	}
}

func bounded(t *testing.T, c *Cluster, name string) {
	t.Helper()
	for _, r := range c.groups[0] {
		if len(c.packets) < api.MaxPackets && int(r.seen)*(r.size-1) > len(c.packets) {
			t.Fatalf("P15: %s: ballot %d, with %d packets", name, r.seen, len(c.packets))
		}
		if r.seen > api.MaxPackets {
			t.Fatalf("P15: %s: ballot %d", name, r.seen)
		}
	}
}
