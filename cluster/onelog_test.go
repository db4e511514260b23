package cluster_test

import (
	"testing"

	"handover/api"
)

// without tells the packets of one replica, from it and to it.
func without(a api.Addr) func(api.Packet, api.Message) bool {
	return func(p api.Packet, m api.Message) bool { return p.From == a || p.To == a }
}

// ledWithout lets a replica lead while another is cut off.
func (x *world) ledWithout(a, cut api.Addr) {
	x.t.Helper()
	x.lose()
	for range 2 {
		x.tick(a)
		x.allBut(without(cut))
	}
}

// One who leads, but is cut off, agrees on nothing with itself.
func TestCutOff(t *testing.T) {
	x := newWorld(t, 1, 1)
	x.led(at(0, 0))
	x.put(at(0, 0), set(0, 1, 5, 1))
	x.ledWithout(at(0, 1), at(0, 0))
	x.put(at(0, 1), set(1, 1, 5, 2))
	x.allBut(without(at(0, 0)))
	if got := kinds(x.log(at(0, 0))) + " " + kinds(x.log(at(0, 1))) + " " + kinds(x.log(at(0, 2))); got != " C C" {
		t.Fatalf("P10: the logs: %q", got)
	}
	x.put(at(0, 0), set(2, 1, 5, 3))
	x.again(0, api.Accept)
	x.again(0, api.Accepted)
	x.again(0, api.Prepare)
	x.again(0, api.Promise)
	x.w.once()
	x.w.inTheEnd()
	if log := x.log(at(0, 0)); log[0].Request != set(1, 1, 5, 2) {
		t.Errorf("P10: %+v", log)
	}
}

// A vote outlives the one who led, in whichever replica it is.
func TestVoteStays(t *testing.T) {
	for voter := 1; voter <= 2; voter++ {
		for _, fallen := range []bool{false, true} {
			x := newWorld(t, 1, 1)
			x.led(at(0, 0))
			x.put(at(0, 0), set(0, 1, 5, 1))
			x.deliverEach(x.to(x.find(0, api.Accept), at(0, voter)))
			if fallen {
				x.crash(at(0, voter))
			}
			from := x.count()
			x.ledWithout(at(0, 1), at(0, 0))
			if log := x.log(at(0, 1)); kinds(log) != "C" || log[0].Request != set(0, 1, 5, 1) {
				t.Errorf("P10: voter %d: %+v", voter, log)
			}
			if p := x.replies(from); len(p) == 0 {
				t.Errorf("P14: nothing was told")
			}
			x.again(0, api.Accepted)
			if n := len(x.log(at(0, 0))); n != 1 {
				t.Errorf("P10: a majority has voted: %d", n)
			}
			x.w.inTheEnd()
		}
	}
}

// What was told stays, though all fall at once and only their records are left.
func TestAllFall(t *testing.T) {
	for faults := range 3 {
		for leader := range 2*faults + 1 {
			x := newWorld(t, 2, faults)
			x.led(at(0, leader))
			x.put(at(0, leader), set(0, 1, 5, 1))
			x.put(at(0, leader), set(0, 1, 6, 2))
			x.allBut(func(_ api.Packet, m api.Message) bool { return m.Kind == api.Decide })
			if len(x.replies(0)) != 2 {
				t.Fatalf("P15: %+v", x.replies(0))
			}
			for i := range x.size {
				x.crash(at(0, i))
			}
			for i := range x.size {
				if n := len(x.log(at(0, i))); n != 0 {
					t.Errorf("P8: a log of %d commands behind a crash", n)
				}
			}
			if !x.w.inTheEnd() || kinds(x.log(at(0, 0)))[:2] != "CC" {
				t.Errorf("P10: %s", kinds(x.log(at(0, 0))))
			}
			x.says(at(0, 0), get(2, 5000, 6), value(2))
		}
	}
}

// A promise outlives a crash.
func TestPromiseStays(t *testing.T) {
	x := newWorld(t, 1, 1)
	x.led(at(0, 0))
	x.put(at(0, 0), set(0, 1, 5, 1))
	accepts := x.find(0, api.Accept)
	x.lose()
	x.tick(at(0, 2))
	x.deliverEach(x.to(x.find(x.next, api.Prepare), at(0, 1)))
	x.crash(at(0, 1))
	from := x.count()
	x.deliverEach(x.to(accepts, at(0, 1)))
	if len(x.find(from, api.Accepted)) != 0 {
		t.Errorf("P10: a promise was forgotten")
	}
	x.again(0, api.Promise)
	x.w.inTheEnd()
}

// A ballot is nobody's for a second time, not even behind a crash.
func TestBallotsAreNew(t *testing.T) {
	x := newWorld(t, 1, 1)
	seen := map[api.Ballot]int{}
	for i := range 30 {
		a := at(0, i%3)
		x.crash(a)
		from := x.count()
		x.tick(a)
		for _, number := range x.find(from, api.Prepare) {
			b := x.w.messages[number].Ballot
			if seen[b] != 0 && seen[b] != i+1 {
				t.Fatalf("P10: the ballot %+v, a second time", b)
			}
			seen[b] = i + 1
		}
		if i%4 == 0 {
			x.all()
		}
	}
	if len(seen) != 30 {
		t.Errorf("P10: %d ballots", len(seen))
	}
}

// Two of five are no majority, however often they say it.
func TestDoubled(t *testing.T) {
	x := newWorld(t, 1, 2)
	x.tick(at(0, 0))
	x.deliver(x.find(0, api.Prepare)[0])
	for range 4 {
		x.again(0, api.Promise)
	}
	x.put(at(0, 0), set(0, 1, 5, 1))
	if len(x.find(0, api.Accept)) != 0 {
		t.Fatalf("P10: led by one other of four")
	}
	x.led(at(0, 0))
	from := x.count()
	x.put(at(0, 0), set(0, 1, 5, 1))
	x.deliver(x.find(from, api.Accept)[0])
	for range 4 {
		x.again(from, api.Accepted)
	}
	if len(x.log(at(0, 0))) != 0 || len(x.replies(0)) != 0 {
		t.Fatalf("P10: agreed on by one other of four")
	}
	x.deliver(x.find(from, api.Accept)[1])
	x.again(from, api.Accepted)
	if len(x.log(at(0, 0))) != 1 || len(x.replies(0)) != 1 {
		t.Errorf("P15: two others have voted: %+v", x.log(at(0, 0)))
	}
}

// Of two votes for a slot the one of the higher ballot counts.
func TestHigherVote(t *testing.T) {
	x := newWorld(t, 1, 2)
	// Replica 0 gets nobody's vote but its own; 1 then gets its own and that of
	// 2, and a majority has promised each.
	x.led(at(0, 0))
	x.put(at(0, 0), set(0, 1, 5, 1))
	x.ledWithout(at(0, 1), at(0, 0))
	from := x.count()
	x.put(at(0, 1), set(1, 1, 5, 2))
	x.deliverEach(x.to(x.find(from, api.Accept), at(0, 2)))
	x.deliverEach(x.to(x.find(from, api.Accept), at(0, 3)))
	x.again(from, api.Accepted)
	if log := x.log(at(0, 1)); len(log) != 1 {
		t.Fatalf("P15: %+v", log)
	}
	// 4 has no vote, 0 has the lower one, 3 the higher one.
	for _, late := range [][]int{{0, 3}, {3, 0}} {
		x.lose()
		x.tick(at(0, 4))
		x.all()
		x.tick(at(0, 4))
		from = x.count()
		for _, i := range late {
			x.deliverEach(x.to(x.find(x.next, api.Prepare), at(0, i)))
		}
		x.again(from, api.Promise)
		for _, number := range x.find(from, api.Accept) {
			if m := x.w.messages[number]; m.Command.Request != set(1, 1, 5, 2) {
				t.Fatalf("P10: %+v is proposed", m.Command)
			}
		}
		x.crash(at(0, 4))
	}
	x.w.inTheEnd()
}

// A promise to an earlier ballot is none to a later one.
func TestOldPromise(t *testing.T) {
	x := newWorld(t, 1, 1)
	x.tick(at(0, 0))
	x.deliverEach(x.find(0, api.Prepare))
	old := x.find(0, api.Promise)
	x.crash(at(0, 0))
	x.ledWithout(at(0, 1), at(0, 0))
	x.put(at(0, 1), set(0, 1, 5, 1))
	x.allBut(without(at(0, 0)))
	if kinds(x.log(at(0, 1))) != "C" {
		t.Fatalf("P15: %+v", x.log(at(0, 1)))
	}
	for range 3 {
		x.tick(at(0, 0))
		from := x.count()
		x.deliverEach(old)
		x.put(at(0, 0), set(1, 1, 5, 2))
		x.again(from, api.Accept)
		x.again(from, api.Accepted)
		x.all()
	}
	x.w.inTheEnd()
}

// Of two ballots with one N, that of the greater Id is the higher one.
func TestSameN(t *testing.T) {
	for first := range 2 {
		x := newWorld(t, 1, 1)
		for _, i := range []int{first, 1 - first} {
			x.tick(at(0, i))
		}
		// Replica 2 hears of both.
		for _, i := range []int{0, 1} {
			for _, number := range x.to(x.find(0, api.Prepare), at(0, 2)) {
				if x.w.packets[number].From == at(0, i) {
					x.deliver(number)
				}
			}
		}
		x.again(0, api.Promise)
		for _, i := range []int{1, 0} {
			from := x.count()
			x.put(at(0, i), set(uint8(i), 1, 5, uint64(i)))
			x.deliverEach(x.to(x.find(from, api.Accept), at(0, 2)))
			x.again(from, api.Accepted)
		}
		if len(x.log(at(0, 1))) != 1 || len(x.log(at(0, 0))) != 0 {
			t.Errorf("P10: %+v, %+v", x.log(at(0, 0)), x.log(at(0, 1)))
		}
		// Nor does the lower one win where it comes behind the higher one.
		from := x.count()
		x.deliverEach(x.to(x.find(0, api.Prepare), at(0, 2)))
		for _, number := range x.find(from, api.Promise) {
			if x.w.packets[number].To == at(0, 0) {
				t.Errorf("P10: a promise below a promise")
			}
		}
		x.w.inTheEnd()
	}
}

// Votes of two ballots do not add up, whether the old one comes ahead of the
// new ballot or behind it.
func TestOldVotes(t *testing.T) {
	for _, ahead := range []bool{false, true} {
		x := newWorld(t, 1, 2)
		x.led(at(0, 0))
		x.put(at(0, 0), set(0, 1, 5, 1))
		x.deliverEach(x.to(x.find(0, api.Accept), at(0, 1)))
		old := x.find(0, api.Accepted)
		if ahead {
			x.deliverEach(old)
		}
		x.crash(at(0, 0))
		x.lose()
		x.tick(at(0, 0))
		from := x.count()
		x.again(x.next, api.Prepare)
		x.again(from, api.Promise)
		from = x.count()
		x.deliverEach(x.to(x.find(x.next, api.Accept), at(0, 2)))
		x.again(from, api.Accepted)
		x.deliverEach(old)
		if len(old) != 1 || len(x.find(from, api.Accepted)) != 1 || len(x.log(at(0, 0))) != 0 {
			t.Errorf("P10: agreed on with two votes of five: %+v", x.log(at(0, 0)))
		}
		x.w.inTheEnd()
	}
}

// An old Reject does not make anybody stand down.
func TestOldReject(t *testing.T) {
	x := newWorld(t, 1, 1)
	x.led(at(0, 0))
	x.ledWithout(at(0, 1), at(0, 0))
	x.led(at(0, 0))
	if len(x.find(0, api.Reject)) == 0 {
		t.Fatalf("nobody was refused")
	}
	x.again(0, api.Reject)
	x.put(at(0, 0), set(0, 1, 5, 1))
	x.all()
	if len(x.replies(0)) != 1 {
		t.Errorf("P15: %+v", x.replies(0))
	}
}

// What a log has does not come into it again, and does not stand in the way of
// the same request.
func TestOldDecide(t *testing.T) {
	x := newWorld(t, 2, 1)
	x.led(at(1, 1))
	x.put(at(1, 1), get(0, 1, 5))
	x.all()
	x.led(at(1, 0))
	for range 3 {
		x.again(0, api.Decide)
		from := x.count()
		x.put(at(1, 0), get(0, 1, 5))
		x.all()
		if p := x.replies(from); len(p) != 1 || p[0].Kind != api.Redirect {
			t.Errorf("P14: %+v", p)
		}
	}
	if n := len(x.log(at(1, 0))); n != 4 {
		t.Errorf("P10: %d commands", n)
	}
}
