package cluster_test

import (
	"testing"

	"handover/api"
	"handover/shard"
)

// made is what Apply makes of a log.
func made(t *testing.T, group, groups int, log []api.Command) api.Shard {
	t.Helper()
	s, e := shard.Begin(group, groups)
	if e != api.OK {
		t.Fatalf("P6: %d", e)
	}
	for _, c := range log {
		s, _ = shard.Apply(s, c)
	}
	return s
}

func (x *world) checkStates() {
	x.t.Helper()
	for g := range x.groups {
		for i := range x.size {
			got, want := x.c.State(at(g, i)), made(x.t, g, x.groups, x.c.Log(at(g, i)))
			if told(got) != told(want) {
				x.t.Fatalf("P9: at %d, %d\n got %+v\nwant %+v", g, i, got, want)
			}
		}
	}
}

func TestState(t *testing.T) {
	for faults := range 3 {
		x := newWorld(t, 3, faults)
		x.checkStates()
		x.rounds(2)
		x.says(at(0, 0), set(0, 1, 5, 7), ok)
		x.says(at(0, 0), set(0, 1, 1, 2), ok)
		x.says(at(0, 0), delegate(1, 1, 4, 9, 2), ok)
		x.rounds(3)
		x.says(at(2, 0), get(1, 1, 5), value(7))
		x.checkStates()
		if got := kinds(x.log(at(0, 0))) + " " + kinds(x.log(at(2, 0))); got != "CCCS RC" {
			t.Errorf("P9: the logs: %s", got)
		}
		// Each replica falls, and gets its log back when it leads.
		for g := range 3 {
			for i := range x.size {
				long := len(x.log(at(g, 0)))
				x.crash(at(g, i))
				x.checkStates()
				x.led(at(g, i))
				x.checkStates()
				if n := len(x.log(at(g, i))); n != long {
					t.Errorf("P9: replica %d of group %d has %d commands, want %d", i, g, n, long)
				}
				x.led(at(g, 0))
			}
		}
		x.w.once()
	}
}

// A log has no gap: what is agreed on for a later slot waits.
func TestNoGap(t *testing.T) {
	x := newWorld(t, 1, 1)
	x.led(at(0, 0))
	x.lose()
	for i := range uint32(4) {
		x.put(at(0, 0), set(0, 1+i, 5, uint64(i)))
	}
	from := x.count()
	x.again(0, api.Accept)
	accepted := x.find(from, api.Accepted)
	if len(accepted) != 8 {
		t.Fatalf("8 votes are awaited: %d", len(accepted))
	}
	for _, slot := range []uint32{2, 1, 3, 0} {
		if n := len(x.log(at(0, 0))); n != 0 {
			t.Fatalf("P9: %d commands, slot 0 is open", n)
		}
		for _, number := range accepted {
			if x.w.messages[number].Slot == slot {
				x.deliver(number)
			}
		}
		if slot == 0 {
			break
		}
		// What waits for slot 0 is on its way: it is not proposed again.
		before := x.count()
		x.put(at(0, 0), set(0, 1+slot, 5, uint64(slot)))
		if len(x.find(before, api.Accept)) != 0 {
			t.Errorf("P12: slot %d is proposed again", slot)
		}
	}
	if n := len(x.log(at(0, 0))); n != 4 {
		t.Errorf("P9: %d commands, want 4", n)
	}
	for _, slot := range []uint32{3, 1, 2, 0} {
		if n := len(x.log(at(0, 1))); n != 0 {
			t.Fatalf("P9: %d commands, slot 0 is not known", n)
		}
		for _, number := range x.find(from, api.Decide) {
			if x.w.messages[number].Slot == slot && x.w.packets[number].To == at(0, 1) {
				x.deliver(number)
			}
		}
	}
	if n := len(x.log(at(0, 1))); n != 4 {
		t.Errorf("P9: %d commands, want 4", n)
	}
	// A crash takes what was waiting, too.
	decided := x.to(x.find(from, api.Decide), at(0, 2))
	x.deliverEach(decided[:3])
	x.crash(at(0, 2))
	x.deliver(decided[3])
	if n := len(x.log(at(0, 2))); n != 1 {
		t.Errorf("P8: %d commands behind a crash, one was told since", n)
	}
	x.checkStates()
}
