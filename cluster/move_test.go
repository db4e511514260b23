package cluster_test

import (
	"testing"

	"handover/api"
)

// settled lets the rounds go by that a range takes.
func (x *world) settled() {
	x.t.Helper()
	x.rounds(3)
	for g := range x.groups {
		for _, lane := range x.c.State(at(g, 0)).Out {
			if len(lane.Queue) != 0 {
				x.t.Fatalf("P15: %+v", lane)
			}
		}
	}
}

func TestHandOver(t *testing.T) {
	for faults := range 3 {
		x := newWorld(t, 3, faults)
		x.rounds(2)
		x.says(at(0, 0), set(0, 1, 5, 7), ok)
		x.says(at(0, 0), set(0, 1, 9, 8), ok)
		x.says(at(1, 0), get(0, 1, 5), redirect(0))
		x.says(at(0, 0), delegate(1, 1, 4, 8, 2), ok)
		x.settled()
		x.says(at(0, 0), get(1, 2, 5), redirect(2))
		x.says(at(0, 0), get(1, 2, 9), value(8))
		x.says(at(1, 0), get(1, 2, 5), redirect(0))
		x.says(at(2, 0), get(1, 2, 5), value(7))
		x.says(at(2, 0), get(1, 2, 9), redirect(0))
		// What was done at the group 0 is known, and not done again.
		x.says(at(2, 0), set(0, 1, 5, 99), ok)
		x.says(at(2, 0), delegate(1, 1, 4, 8, 1), ok)
		x.says(at(2, 0), get(2, 1, 5), value(7))
		x.says(at(2, 0), remove(0, 2, 5), ok)
		x.says(at(2, 0), set(0, 1, 5, 99), stale)
		x.says(at(2, 0), delegate(2, 2, 5, 5, 1), ok)
		x.settled()
		x.says(at(1, 0), get(3, 1, 5), none)
		x.says(at(1, 0), get(2, 1, 5), stale)
		x.says(at(1, 0), delegate(0, 3, 5, 5, 1), full)
		x.w.once()
		x.w.inTheEnd()
	}
}

// A key goes round and round, and all that was ever sent comes again and again.
func TestRoundAndRound(t *testing.T) {
	for faults := range 2 {
		x := newWorld(t, 2, faults)
		x.rounds(2)
		x.says(at(0, 0), set(0, 1, 5, 100), ok)
		old := []int{}
		for lap := range 4 {
			for g := range 2 {
				seq := uint32(2*lap + g + 2)
				x.says(at(g, 0), get(1, seq, 5), value(uint64(98+seq)))
				x.says(at(g, 0), set(2, seq, 5, uint64(99+seq)), ok)
				x.says(at(g, 0), delegate(3, seq, 5, 6, uint8(1-g)), ok)
				x.settled()
				old = append(x.find(0, api.Move), x.find(0, api.Ack)...)
				for _, number := range old {
					x.deliver(number)
				}
				x.all()
			}
		}
		for _, number := range append(x.find(0, api.Decide), x.find(0, api.Accept)...) {
			x.deliver(number)
		}
		x.all()
		if s := x.c.State(at(0, 0)); s.Out[1].Next != 5 || s.In[1] != 4 || len(s.Table) != 1 {
			t.Errorf("P13: %+v", s)
		}
		x.w.once()
		x.w.inTheEnd()
	}
}

// Ranges that go one behind the other come in in this order, whatever order
// they are delivered in.
func TestLateRanges(t *testing.T) {
	x := newWorld(t, 2, 1)
	x.rounds(2)
	for i := range uint64(4) {
		x.says2(at(0, 0), set(0, 1, i, 10+i))
		x.says2(at(0, 0), delegate(1, 1, i, i, 1))
	}
	x.says2(at(0, 0), delegate(1, 1, 8, 8, 1))
	if p := x.replies(0); p[len(p)-1].Kind != api.Full {
		t.Errorf("P7: a fifth range: %+v", p[len(p)-1])
	}
	// The first one's Ack is lost.
	x.tick(at(0, 0))
	x.allBut(func(_ api.Packet, m api.Message) bool { return m.Kind == api.Ack })
	if s, d := x.c.State(at(0, 0)), x.c.State(at(1, 0)); len(s.Out[1].Queue) != 4 || d.In[0] != 1 {
		t.Fatalf("P13: %+v, %+v", s.Out, d.In)
	}
	// Another one leads at both ends.
	x.led(at(0, 1))
	x.led(at(1, 2))
	for range 5 {
		x.tick(at(0, 1))
		x.all()
	}
	if s, d := x.c.State(at(0, 1)), x.c.State(at(1, 2)); len(s.Out[1].Queue) != 0 || d.In[0] != 4 {
		t.Errorf("P15: %+v, %+v", s.Out, d.In)
	}
	x.again(0, api.Move)
	x.again(0, api.Ack)
	x.all()
	for i := range uint64(4) {
		x.put(at(1, 2), get(2, 1, i))
	}
	x.all()
	want := []api.Row{{Key: 0, Value: 10}, {Key: 1, Value: 11}, {Key: 2, Value: 12}, {Key: 3, Value: 13}}
	if s := x.c.State(at(1, 2)); told(s.Table) != told(want) {
		t.Errorf("P14: %+v", s.Table)
	}
	x.w.once()
	x.w.inTheEnd()
}

// says2 asks without a tick: nothing is moved.
func (x *world) says2(to api.Addr, q api.Request) {
	x.t.Helper()
	from := x.count()
	x.put(to, q)
	x.all()
	if len(x.replies(from)) == 0 {
		x.t.Fatalf("P15: %+v was not answered", q)
	}
}

// While its keys are on their way nobody answers for them, and the request that
// comes to both ends is done once.
func TestOnTheWay(t *testing.T) {
	x := newWorld(t, 2, 1)
	x.rounds(2)
	x.says2(at(0, 0), set(0, 1, 5, 7))
	x.says2(at(0, 0), delegate(1, 1, 5, 5, 1))
	from := x.count()
	x.says2(at(0, 0), set(2, 1, 5, 8))
	x.says2(at(1, 0), set(2, 1, 5, 8))
	for _, p := range x.replies(from) {
		if p.Kind != api.Redirect {
			t.Errorf("P13: %+v", p)
		}
	}
	x.rounds(2)
	from = x.count()
	x.says2(at(0, 0), set(2, 1, 5, 8))
	x.says2(at(1, 0), set(2, 1, 5, 8))
	x.says2(at(1, 0), set(3, 1, 5, 9))
	x.says2(at(1, 0), set(2, 1, 5, 8))
	x.says2(at(1, 0), get(0, 2, 5))
	p := x.replies(from)
	if len(p) != 5 || p[0].Kind != api.Redirect || p[1].Kind != api.Ok || p[3].Kind != api.Ok || p[4].Value != 9 {
		t.Errorf("P14: %+v", p)
	}
	x.w.once()
	x.w.inTheEnd()
}

// One who led, and does not know that it does no more, tells nothing of its own.
func TestOldLeader(t *testing.T) {
	x := newWorld(t, 2, 1)
	x.rounds(2)
	x.says2(at(0, 0), set(0, 1, 5, 7))
	x.ledWithout(at(0, 1), at(0, 0))
	x.put(at(0, 1), set(0, 2, 5, 8))
	x.allBut(without(at(0, 0)))
	from := x.count()
	x.put(at(0, 0), get(1, 1, 5))
	x.put(at(0, 0), get(2, 1, 5))
	x.all()
	if p := x.replies(from); len(p) != 0 {
		t.Errorf("P14: an old value: %+v", p)
	}
	// What it knows to be done it tells again.
	x.put(at(0, 0), set(0, 1, 5, 7))
	x.rounds(3)
	x.says(at(0, 0), get(1, 5000, 5), value(8))
	x.w.once()
	x.w.inTheEnd()
}
