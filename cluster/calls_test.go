package cluster_test

import (
	"math"
	"slices"
	"strings"
	"testing"

	"handover/api"
	"handover/cluster"
	"handover/shard"
)

func TestNew(t *testing.T) {
	for groups := 1; groups <= 4; groups++ {
		for faults := range 3 {
			c := opened(t, groups, faults)
			if p := c.Packets(0); len(p) != 0 {
				t.Errorf("P8: New(%d, %d) has packets: %+v", groups, faults, p)
			}
			for g := range groups {
				want, _ := shard.Begin(g, groups)
				for i := range 2*faults + 1 {
					if log, s := c.Log(at(g, i)), c.State(at(g, i)); len(log) != 0 || told(s) != told(want) {
						t.Errorf("P8: New(%d, %d): %+v, %+v", groups, faults, log, s)
					}
					if e := c.Crash(at(g, i)); e != api.OK {
						t.Errorf("P8: New(%d, %d): no replica %d, %d", groups, faults, g, i)
					}
				}
				if e := c.Crash(at(g, 2*faults+1)); e != api.ErrAddr {
					t.Errorf("P8: New(%d, %d): more replicas in group %d", groups, faults, g)
				}
			}
			if e := c.Crash(at(groups, 0)); e != api.ErrAddr {
				t.Errorf("P8: New(%d, %d): more groups", groups, faults)
			}
		}
	}
}

func TestNewNot(t *testing.T) {
	for _, x := range [][2]int{
		{0, 0}, {5, 0}, {-1, 1}, {1, -1}, {1, 3}, {4, 3}, {0, 3}, {0, -1}, {5, 3}, {256, 0}, {257, 1}, {1, 256}, {1, 257}, {1 << 32, 0}, {1<<32 + 1, 1<<32 + 1},
		{math.MinInt, 0}, {math.MaxInt, 0}, {1, math.MinInt}, {1, math.MaxInt}, {math.MaxInt, math.MaxInt}, {math.MinInt, math.MinInt},
	} {
		if c, e := cluster.New(x[0], x[1]); c != nil || e != api.ErrGroups {
			t.Errorf("P8: New(%v) = %v, %d, want nil, %d", x, c, e, api.ErrGroups)
		}
	}
}

func TestAddresses(t *testing.T) {
	c := opened(t, 3, 1)
	for g := range 256 {
		for i := range 256 {
			a := at(g, i)
			if g < 3 && i < 3 {
				continue
			}
			number, e := c.Send(a, "")
			if number != 0 || e != api.ErrAddr || c.Tick(a) != api.ErrAddr || c.Crash(a) != api.ErrAddr {
				t.Fatalf("P8: %+v: Send = %d, %d, Tick %d, Crash %d", a, number, e, c.Tick(a), c.Crash(a))
			}
			if log, s := c.Log(a), c.State(a); log != nil || told(s) != told(api.Shard{}) {
				t.Fatalf("P9: %+v: %+v, %+v", a, log, s)
			}
		}
	}
	if p := c.Packets(0); len(p) != 0 {
		t.Errorf("P1: packets behind errors alone: %+v", p)
	}
	for g := range 3 {
		for i := range 3 {
			a := at(g, i)
			number, e := c.Send(a, "")
			if number != len(c.Packets(0))-1 || e != api.OK || c.Tick(a) != api.OK || c.Crash(a) != api.OK {
				t.Errorf("P8: %+v: Send = %d, %d", a, number, e)
			}
		}
	}
}

func TestSend(t *testing.T) {
	c := opened(t, 2, 1)
	long := strings.Repeat("x", 1000)
	var want []api.Packet
	for i, data := range []string{"", "x", "\x00\xff", strings.Repeat("y", 999), long, ""} {
		to := at(i%2, i%3)
		if number, e := c.Send(to, data); number != i || e != api.OK {
			t.Errorf("P8: Send = %d, %d, want %d", number, e, i)
		}
		want = append(want, api.Packet{From: clients, To: to, Data: data})
		for _, data := range []string{long + "x", strings.Repeat(long, 9)} {
			if number, e := c.Send(to, data); number != 0 || e != api.ErrBytes {
				t.Errorf("P8: Send of %d bytes = %d, %d", len(data), number, e)
			}
			if number, e := c.Send(at(2, 0), data); number != 0 || e != api.ErrAddr {
				t.Errorf("P1: Send of %d bytes to nobody = %d, %d", len(data), number, e)
			}
		}
		if got := c.Packets(0); !slices.Equal(got, want) {
			t.Errorf("P8: Packets(0)\n got %+v\nwant %+v", got, want)
		}
	}
}

func TestPackets(t *testing.T) {
	c := opened(t, 1, 0)
	if len(c.Packets(0)) != 0 || len(c.Packets(-1)) != 0 || len(c.Packets(1)) != 0 {
		t.Errorf("P8: packets ahead of the first one")
	}
	for i := range 5 {
		c.Send(at(0, 0), string(rune('a'+i)))
	}
	for _, x := range []struct {
		from int
		want string
	}{
		{0, "abcde"}, {-1, "abcde"}, {-5, "abcde"}, {math.MinInt, "abcde"}, {1, "bcde"}, {3, "de"}, {4, "e"},
		{5, ""}, {6, ""}, {1 << 32, ""}, {math.MaxInt, ""},
	} {
		got := ""
		for _, p := range c.Packets(x.from) {
			got += p.Data
		}
		if got != x.want {
			t.Errorf("P8: Packets(%d) = %q, want %q", x.from, got, x.want)
		}
	}
}

func TestDeliver(t *testing.T) {
	c := opened(t, 1, 0)
	none := []int{-1, 0, 1, math.MinInt, math.MaxInt, 1 << 32}
	for _, number := range none {
		if e := c.Deliver(number); e != api.ErrPacket {
			t.Errorf("P8: Deliver(%d) = %d", number, e)
		}
	}
	c.Tick(at(0, 0))
	c.Send(at(0, 0), askOf(t, set(1, 1, 5, 7)))
	for range 3 {
		if e := c.Deliver(0); e != api.OK {
			t.Errorf("P8: Deliver(0) = %d", e)
		}
	}
	tells := c.Packets(1)
	if len(tells) != 3 {
		t.Fatalf("P8: an Ask that came three times: %+v", tells)
	}
	before := told(c.State(at(0, 0)))
	for i := range tells {
		want := api.Packet{From: at(0, 0), To: at(255, 1), Data: bytesOf(t, api.Message{Kind: api.Tell, Reply: api.Reply{Client: 1, Seq: 1, Key: 5, Kind: api.Ok}})}
		if tells[i] != want {
			t.Errorf("P8: %+v, want %+v", tells[i], want)
		}
		if e := c.Deliver(1 + i); e != api.OK {
			t.Errorf("P8: Deliver of a Tell: %d", e)
		}
	}
	if len(c.Packets(0)) != 4 || told(c.State(at(0, 0))) != before {
		t.Errorf("P8: something came of a packet to a client")
	}
	if e := c.Deliver(4); e != api.ErrPacket {
		t.Errorf("P8: Deliver behind the last packet: %d", e)
	}
}

// TestExample is the last of the document's examples.
func TestExample(t *testing.T) {
	c := opened(t, 1, 0)
	q := set(1, 2, 3, 4)
	number, e := c.Send(at(0, 0), askOf(t, q))
	c.Deliver(number)
	if len(c.Packets(0)) != 1 || len(c.Log(at(0, 0))) != 0 {
		t.Errorf("nobody leads yet: %+v", c.Log(at(0, 0)))
	}
	c.Tick(at(0, 0))
	number, e = c.Send(at(0, 0), askOf(t, q))
	if e != api.OK || c.Deliver(number) != api.OK {
		t.Fatalf("P8: Send = %d, %d", number, e)
	}
	if log := c.Log(at(0, 0)); told(log) != told([]api.Command{{Kind: api.Client, Request: q}}) {
		t.Errorf("P9: the log: %+v", log)
	}
	if p := c.Packets(number + 1); len(p) != 1 || p[0].To != at(255, 1) {
		t.Errorf("P8: %+v", p)
	}
}

// fill lays packets onto the network until there are so many.
func fill(t *testing.T, c *cluster.Cluster, to api.Addr, n int) {
	t.Helper()
	for i := len(c.Packets(0)); i < n; i++ {
		if number, e := c.Send(to, "x"); number != i || e != api.OK {
			t.Fatalf("P8: packet %d: %d, %d", i, number, e)
		}
	}
}

func TestFullNetwork(t *testing.T) {
	c := opened(t, 1, 0)
	c.Tick(at(0, 0))
	c.Send(at(0, 0), askOf(t, set(0, 1, 5, 7)))
	fill(t, c, at(0, 0), 20000)
	before := c.Packets(0)
	if len(before) != 20000 {
		t.Fatalf("P8: %d packets", len(before))
	}
	for range 3 {
		if number, e := c.Send(at(0, 0), "y"); number != 20000 || e != api.OK {
			t.Errorf("P8: Send to a full network = %d, %d", number, e)
		}
		if number, e := c.Send(at(1, 0), "y"); number != 0 || e != api.ErrAddr {
			t.Errorf("P8: Send to nobody = %d, %d", number, e)
		}
		if number, e := c.Send(at(0, 0), strings.Repeat("y", 1001)); number != 0 || e != api.ErrBytes {
			t.Errorf("P8: Send of too much = %d, %d", number, e)
		}
	}
	if e := c.Deliver(20000); e != api.ErrPacket {
		t.Errorf("P8: Deliver(20000) = %d", e)
	}
	// Replicas go on, but nothing that they send joins the network.
	if e := c.Deliver(0); e != api.OK || len(c.Log(at(0, 0))) != 1 {
		t.Errorf("P8: Deliver(0) = %d, the log: %+v", e, c.Log(at(0, 0)))
	}
	if c.Tick(at(0, 0)) != api.OK || c.Crash(at(0, 0)) != api.OK || c.Tick(at(0, 0)) != api.OK || len(c.Log(at(0, 0))) != 1 {
		t.Errorf("P8: the log behind a crash: %+v", c.Log(at(0, 0)))
	}
	if !slices.Equal(c.Packets(0), before) {
		t.Errorf("P8: a full network has changed")
	}
}

// What is first handed out is first on the network: the last room is for it.
func TestNearlyFullNetwork(t *testing.T) {
	free := opened(t, 1, 2)
	free.Tick(at(0, 0))
	sent := free.Packets(0)
	for room := range len(sent) + 1 {
		c := opened(t, 1, 2)
		fill(t, c, at(0, 0), 20000-room)
		c.Tick(at(0, 0))
		if got := c.Packets(20000 - room); !slices.Equal(got, sent[:room]) {
			t.Errorf("P8: with room for %d: %+v, want %+v", room, got, sent[:room])
		}
	}
}

func TestFullLog(t *testing.T) {
	for faults := range 3 {
		x := newWorld(t, 2, faults)
		x.led(at(0, 0))
		for i := range uint32(70) {
			x.put(at(0, 0), get(0, i+1, 5))
			if i%9 == 0 {
				x.all()
			}
		}
		x.all()
		if n := len(x.log(at(0, 0))); n != 60 {
			t.Fatalf("P8: a log with %d commands", n)
		}
		if p := x.replies(0); len(p) != 60 || p[59].Seq != 60 {
			t.Errorf("P8: %d replies: %+v", len(p), p)
		}
		x.rounds(3)
		from := x.count()
		x.put(at(0, 0), get(1, 1, 5))
		x.put(at(0, 0), delegate(1, 1, 4, 4, 1))
		x.rounds(3)
		if p := x.replies(from); len(p) != 0 {
			t.Errorf("P8: the log is full, and yet: %+v", p)
		}
		// What was done needs no room.
		x.put(at(0, 0), get(0, 60, 5))
		if p := x.replies(from); len(p) != 1 || p[0].Seq != 60 {
			t.Errorf("P14: asked again: %+v", p)
		}
		x.crash(at(0, 0))
		x.rounds(3)
		if n := len(x.log(at(0, 0))); n != 60 {
			t.Errorf("P10: %d commands behind a crash", n)
		}
		x.w.once()
	}
}

// A group whose log is full takes in no range: that stays in its lane.
func TestFullLogOfPeer(t *testing.T) {
	x := newWorld(t, 2, 1)
	x.rounds(2)
	for i := range uint32(60) {
		x.put(at(1, 0), get(0, i+1, 5))
	}
	x.all()
	x.put(at(0, 0), delegate(0, 1, 4, 9, 1))
	x.rounds(6)
	if s := x.c.State(at(0, 0)); len(s.Out[1].Queue) != 1 {
		t.Errorf("P13: the lane: %+v", s.Out[1])
	}
	if kinds(x.log(at(0, 0))) != "C" || kinds(x.log(at(1, 0))) != strings.Repeat("C", 60) {
		t.Errorf("P12: %s, %s", kinds(x.log(at(0, 0))), kinds(x.log(at(1, 0))))
	}
	x.w.once()
}
