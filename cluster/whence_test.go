package cluster_test

import (
	"testing"

	"handover/api"
)

// gap makes a slot without a vote below slots with one: of some proposals of
// replica 0, only those for some slots come to replica 1.
func gap(t *testing.T, x *world, proposed int, come ...uint32) {
	t.Helper()
	x.led(at(0, 0))
	from := x.count()
	for i := range proposed {
		x.put(at(0, 0), set(0, 1, uint64(i), 7))
	}
	for _, number := range x.find(from, api.Accept) {
		for _, slot := range come {
			if x.w.packets[number].To == at(0, 1) && x.w.messages[number].Slot == slot {
				x.deliver(number)
			}
		}
	}
	x.crash(at(0, 0))
}

// A Nop stands only where a vote for a later slot was met.
func TestNops(t *testing.T) {
	for _, c := range []struct {
		proposed int
		come     []uint32
		want     string
	}{
		{0, nil, ""}, {3, nil, ""}, {3, []uint32{0}, "C"}, {3, []uint32{1}, "NC"}, {3, []uint32{2}, "NNC"}, {5, []uint32{0, 3}, "CNNC"}, {5, []uint32{1, 3}, "NCNC"}, {60, []uint32{1}, "NC"},
	} {
		x := newWorld(t, 1, 1)
		gap(t, x, c.proposed, c.come...)
		x.ledWithout(at(0, 1), at(0, 0))
		if got := kinds(x.log(at(0, 1))); got != c.want {
			t.Errorf("P12: of %d, %v were voted for: %q, want %q", c.proposed, c.come, got, c.want)
		}
		// Behind them the log goes on.
		x.put(at(0, 1), get(1, 1, 50))
		x.allBut(without(at(0, 0)))
		if got := kinds(x.log(at(0, 1))); got != c.want+"C" {
			t.Errorf("P12: %q, want one more than %q", got, c.want)
		}
		x.w.once()
		x.w.inTheEnd()
	}
}

// Whoever leads, and however often it changes, lays nothing down of its own.
func TestNothingOfItsOwn(t *testing.T) {
	x := newWorld(t, 2, 2)
	for range 3 {
		for i := range x.size {
			x.led(at(0, i))
			x.led(at(1, i))
		}
	}
	for g := range 2 {
		for i := range x.size {
			if log := x.log(at(g, i)); len(log) != 0 {
				t.Errorf("P12: at %d, %d: %s", g, i, kinds(log))
			}
		}
	}
}

// However often an Ask comes while it is proposed, or was done, it takes one
// slot; what comes of a Move or an Ack that comes often takes one too.
func TestOneSlot(t *testing.T) {
	x := newWorld(t, 2, 1)
	x.rounds(2)
	first := x.ask(at(0, 0), delegate(0, 1, 4, 9, 1))
	second := x.ask(at(0, 0), set(0, 1, 5, 7))
	for range 5 {
		x.deliver(first)
		x.deliver(second)
	}
	x.all()
	for range 5 {
		x.tick(at(0, 0))
	}
	for range 5 {
		x.again(0, api.Move)
	}
	x.all()
	for range 5 {
		x.again(0, api.Move)
		x.again(0, api.Ack)
	}
	x.all()
	x.rounds(5)
	if got := kinds(x.log(at(0, 0))) + " " + kinds(x.log(at(1, 0))); got != "CCS R" {
		t.Errorf("P12: the logs: %s", got)
	}
	// The Set went with its key's group by then.
	if p := x.replies(0); p[0] != (api.Reply{Seq: 1, Key: 4, Kind: api.Ok}) || p[1] != (api.Reply{Seq: 1, Key: 5, Kind: api.Redirect, Group: 1}) {
		t.Errorf("P14: %+v", p)
	}
	x.w.once()
}
