package cluster_test

import (
	"testing"

	"handover/api"
)

// TestEndOfNothing: P15 with nothing ahead of it.
func TestEndOfNothing(t *testing.T) {
	for groups := 1; groups <= 4; groups++ {
		for faults := range 3 {
			x := newWorld(t, groups, faults)
			if !x.w.inTheEnd() {
				t.Errorf("P15: full, of %d groups with %d faults", groups, faults)
			}
		}
	}
}

// Every lane is full, others lead everywhere with higher ballots, replica 0 of
// a group thinks that it leads, or has fallen, or knows nothing yet.
func TestEndOfFullLanes(t *testing.T) {
	for faults := range 3 {
		for way := range 4 {
			x := newWorld(t, 4, faults)
			other := x.size - 1
			if way != 3 {
				x.rounds(2)
			}
			x.shareOut()
			for g := range 4 {
				for i := range other + 1 {
					x.led(at(g, i))
				}
			}
			x.fillLanes(other)
			for g := range 4 {
				if way == 1 {
					x.crash(at(g, 0))
				}
				for i := range x.size {
					if way == 2 {
						x.crash(at(g, i))
					}
				}
			}
			if !x.w.inTheEnd() {
				t.Errorf("P15: full, with %d faults, way %d", faults, way)
			}
		}
	}
}

// shareOut gives each group keys of its own.
func (x *world) shareOut() {
	x.t.Helper()
	for g := range 4 {
		x.led(at(g, 0))
	}
	for g := uint64(1); g < 4; g++ {
		x.put(at(0, 0), delegate(0, 1, 100*g, 100*g+99, uint8(g)))
		x.all()
	}
	for range 3 {
		x.tick(at(0, 0))
		x.all()
	}
}

// fillLanes lets each group have 4 ranges to another one, and loses the Moves.
func (x *world) fillLanes(leader int) {
	x.t.Helper()
	for g := range uint64(4) {
		to := uint8((g + 1) % 4)
		for i := range uint64(4) {
			x.put(at(int(g), leader), set(1, 1, 100*g+2*i, i))
			x.put(at(int(g), leader), delegate(2, 1, 100*g+2*i, 100*g+7, to))
			x.put(at(int(g), leader), delegate(2, 1, 100*g+8+i, 100*g+8+i, to))
			x.allBut(func(_ api.Packet, m api.Message) bool { return m.Kind == api.Move })
		}
		if n := len(x.w.last(int(g)).Out[to].Queue); n != 4 {
			x.t.Fatalf("P7: the lane from %d to %d has %d ranges", g, to, n)
		}
	}
}

// One who leads hears from no packet of these rounds that it was followed by
// another, but for its own.
func TestEndOfOldLeader(t *testing.T) {
	for faults := 1; faults < 3; faults++ {
		x := newWorld(t, 2, faults)
		x.rounds(2)
		x.says2(at(0, 0), set(0, 1, 5, 1))
		x.ledWithout(at(0, 1), at(0, 0))
		for i := range uint32(5) {
			x.put(at(0, 1), set(1, 1+i, 5, uint64(i)))
		}
		x.put(at(0, 1), delegate(2, 1, 5, 9, 1))
		x.allBut(without(at(0, 0)))
		if n := len(x.log(at(0, 1))); n != 7 {
			t.Fatalf("P15: %d commands", n)
		}
		x.put(at(0, 0), set(3, 1, 5, 9))
		if !x.w.inTheEnd() {
			t.Errorf("P15: full")
		}
	}
}

// Proposals whose packets were lost are agreed on in the end.
func TestEndOfLostPackets(t *testing.T) {
	for _, kind := range []uint8{api.Prepare, api.Promise, api.Accept, api.Accepted, api.Decide, api.Move, api.Ack} {
		for faults := range 3 {
			x := newWorld(t, 3, faults)
			lost := func(_ api.Packet, m api.Message) bool { return m.Kind == kind }
			for range 3 {
				for g := range 3 {
					x.tick(at(g, 0))
				}
				x.allBut(lost)
				x.put(at(0, 0), set(0, 1, 5, 1))
				x.put(at(0, 0), delegate(0, 1, 4, 9, 2))
				x.allBut(lost)
			}
			if !x.w.inTheEnd() {
				t.Errorf("P15: full, without the messages of kind %d", kind)
			}
		}
	}
}

// A range takes few rounds, and so do four that wait in one lane.
func TestEndOfLane(t *testing.T) {
	x := newWorld(t, 2, 2)
	x.rounds(2)
	for i := range uint64(4) {
		x.says2(at(0, 0), delegate(0, 1, i, i, 1))
	}
	x.rounds(4)
	if s := x.c.State(at(0, 0)); len(s.Out[1].Queue) != 0 {
		t.Errorf("P15: %d ranges wait", len(s.Out[1].Queue))
	}
}
