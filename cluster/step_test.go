package cluster

import (
	"runtime"
	"testing"
	"time"

	"handover/api"
	"handover/wire"
)

// handed runs a step by hand. It tells the packets in turn, and what was
// written down when the first one came out.
func handed(r *replica, work func()) ([]api.Packet, record) {
	packets := make(chan api.Packet)
	through := make(chan struct{})
	go r.run(work, packets, through)
	var list []api.Packet
	var first record
	for {
		select {
		case p := <-packets:
			if len(list) == 0 {
				first = record{r.written.ballot, map[uint32]api.Vote{}}
				for slot, v := range r.written.votes {
					first.votes[slot] = v
				}
			}
			list = append(list, p)
		case <-through:
			return list, first
		}
	}
}

func packet(t *testing.T, from uint8, m api.Message) api.Packet {
	t.Helper()
	data, e := wire.Marshal(m)
	if e != api.OK {
		t.Fatalf("no right message: %+v", m)
	}
	return api.Packet{From: api.Addr{Replica: from}, Data: data}
}

// The record is written down ahead of any packet, in each kind of step that
// changes it.
func TestRecordFirst(t *testing.T) {
	r := newReplica(api.Addr{}, 1, 3)
	step := func(p api.Packet) func() { return func() { r.take(p) } }
	list, first := handed(r, r.tick)
	if len(list) != 2 || first.ballot != (api.Ballot{N: 1}) {
		t.Errorf("P10: a campaign: %+v, written %+v", list, first)
	}
	b := api.Ballot{N: 4, Id: 2}
	list, first = handed(r, step(packet(t, 2, api.Message{Kind: api.Prepare, Ballot: b})))
	if len(list) != 1 || first.ballot != b {
		t.Errorf("P10: a promise: %+v, written %+v", list, first)
	}
	c := api.Command{Kind: api.Client, Request: api.Request{Seq: 1, Kind: api.Get}}
	b.N = 5
	list, first = handed(r, step(packet(t, 2, api.Message{Kind: api.Accept, Ballot: b, Slot: 7, Command: c})))
	if len(list) != 1 || first.ballot != b || first.votes[7].Ballot != b || first.votes[7].Command.Request != c.Request {
		t.Errorf("P10: a vote: %+v, written %+v", list, first)
	}
	handed(r, r.tick)
	list, first = handed(r, step(packet(t, 1, api.Message{Kind: api.Promise, Ballot: api.Ballot{N: 6}})))
	if len(list) != 16 || len(first.votes) != 8 || first.votes[7].Ballot.N != 6 {
		t.Errorf("P10: proposals: %+v, written %+v", list, first)
	}
	r.start()
	if r.ballot != (api.Ballot{N: 6}) || len(r.votes) != 8 || r.role != following || len(r.proposals)+len(r.accepted)+len(r.known)+len(r.log) != 0 {
		t.Errorf("P8: behind a crash: %+v", r)
	}
}

// Whatever way a step ends, the record is written down and the end is told.
func TestRecordOnEveryWayOut(t *testing.T) {
	r := newReplica(api.Addr{}, 1, 3)
	through := make(chan struct{})
	func() {
		defer func() { _ = recover() }()
		r.run(func() {
			r.ballot.N = 9
			panic("a way out")
		}, nil, through)
	}()
	select {
	case <-through:
	default:
		t.Errorf("the end of the step was not told")
	}
	if r.written.ballot.N != 9 {
		t.Errorf("the record was not written down: %+v", r.written)
	}
}

// A replica that has met the last ballot of all campaigns no more, rather than
// begin at 0 again.
func TestLastBallot(t *testing.T) {
	r := newReplica(api.Addr{}, 1, 3)
	last := api.Ballot{N: 1<<32 - 1, Id: 2}
	handed(r, func() { r.take(packet(t, 2, api.Message{Kind: api.Prepare, Ballot: last})) })
	if list, _ := handed(r, r.tick); len(list) != 0 || r.ballot != last {
		t.Errorf("P10: behind the last ballot: %+v, %+v", r.ballot, list)
	}
}

// Every step has ended when the call answers.
func TestStepsEnd(t *testing.T) {
	before := runtime.NumGoroutine()
	c, _ := New(4, 2)
	for i := range 500 {
		a := api.Addr{Group: uint8(i % 4), Replica: uint8(i % 5)}
		c.Tick(a)
		c.Send(a, "x")
		for k := range 20 {
			c.Deliver(len(c.packets) - k)
		}
	}
	for range 100 {
		if runtime.NumGoroutine() <= before {
			return
		}
		time.Sleep(10 * time.Millisecond)
	}
	t.Errorf("%d goroutines are left, there were %d", runtime.NumGoroutine(), before)
}
