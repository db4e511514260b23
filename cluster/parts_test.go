package cluster_test

import (
	"fmt"
	"testing"

	"handover/api"
	"handover/cluster"
	"handover/wire"
)

const most = 1<<64 - 1

var clients = api.Addr{Group: 255, Replica: 255}

func at(group, replica int) api.Addr {
	return api.Addr{Group: uint8(group), Replica: uint8(replica)}
}

// told says all of a value, nil and empty lists alike.
func told(v any) string { return fmt.Sprintf("%+v", v) }

func opened(t *testing.T, groups, faults int) *cluster.Cluster {
	t.Helper()
	c, e := cluster.New(groups, faults)
	if c == nil || e != api.OK {
		t.Fatalf("P8: New(%d, %d) = %v, %d", groups, faults, c, e)
	}
	return c
}

func bytesOf(t *testing.T, m api.Message) string {
	t.Helper()
	s, e := wire.Marshal(m)
	if e != api.OK {
		t.Fatalf("no right message: %+v", m)
	}
	return s
}

func askOf(t *testing.T, q api.Request) string {
	t.Helper()
	return bytesOf(t, api.Message{Kind: api.Ask, Request: q})
}

// A world is a cluster, with a witness who looks on behind every call.
type world struct {
	t            *testing.T
	c            *cluster.Cluster
	groups, size int
	next         int         // the first packet that was not delivered in its turn
	early        map[int]int // packets that were delivered ahead of it
	w            *witness
}

func newWorld(t *testing.T, groups, faults int) *world {
	t.Helper()
	x := &world{t: t, c: opened(t, groups, faults), groups: groups, size: 2*faults + 1, early: map[int]int{}}
	x.w = newWitness(x)
	x.w.look(nil)
	return x
}

func (x *world) is(name string, e api.Errno) {
	x.t.Helper()
	if e != api.OK {
		x.t.Fatalf("P8: %s: %d", name, e)
	}
}

func (x *world) tick(a api.Addr) {
	x.t.Helper()
	x.is("Tick", x.c.Tick(a))
	x.w.look(nil)
}

func (x *world) crash(a api.Addr) {
	x.t.Helper()
	x.is("Crash", x.c.Crash(a))
	x.w.look(&a)
}

func (x *world) deliver(packet int) {
	x.t.Helper()
	x.is("Deliver", x.c.Deliver(packet))
	x.w.look(nil)
}

func (x *world) ask(to api.Addr, q api.Request) int {
	x.t.Helper()
	number, e := x.c.Send(to, askOf(x.t, q))
	x.is("Send", e)
	x.w.look(nil)
	return number
}

// put sends a request and delivers it at once.
func (x *world) put(to api.Addr, q api.Request) {
	x.t.Helper()
	number := x.ask(to, q)
	x.deliver(number)
	x.early[number] = 1
}

func (x *world) count() int { return len(x.w.packets) }

// all delivers what was not delivered yet.
func (x *world) all() {
	x.t.Helper()
	x.allBut(func(api.Packet, api.Message) bool { return false })
}

// allBut delivers what was not delivered yet, but for some packets.
func (x *world) allBut(lost func(p api.Packet, m api.Message) bool) {
	x.t.Helper()
	for ; x.next < x.count(); x.next++ {
		if x.early[x.next] == 0 && !lost(x.w.packets[x.next], x.w.messages[x.next]) {
			x.deliver(x.next)
		}
	}
}

// lose never delivers what was not delivered yet.
func (x *world) lose() { x.next = x.count() }

func (x *world) round() {
	x.t.Helper()
	for g := range x.groups {
		x.tick(at(g, 0))
	}
	x.all()
}

func (x *world) rounds(n int) {
	x.t.Helper()
	for range n {
		x.round()
	}
}

// led lets a replica lead: nothing is lost while it campaigns.
func (x *world) led(a api.Addr) {
	x.t.Helper()
	for range 2 {
		x.tick(a)
		x.all()
	}
}

// find tells the packets from a number on that have a message of a kind.
func (x *world) find(from int, kind uint8) []int {
	var list []int
	for i := from; i < x.count(); i++ {
		if x.w.messages[i].Kind == kind && x.w.packets[i].From != clients {
			list = append(list, i)
		}
	}
	return list
}

// to tells those of some packets that go to a replica.
func (x *world) to(numbers []int, a api.Addr) []int {
	var list []int
	for _, number := range numbers {
		if x.w.packets[number].To == a {
			list = append(list, number)
		}
	}
	return list
}

func (x *world) deliverEach(numbers []int) {
	x.t.Helper()
	for _, number := range numbers {
		x.deliver(number)
	}
}

// again delivers all packets from a number on that have a message of a kind.
func (x *world) again(from int, kind uint8) {
	x.t.Helper()
	x.deliverEach(x.find(from, kind))
}

func (x *world) replies(from int) []api.Reply {
	var list []api.Reply
	for _, i := range x.find(from, api.Tell) {
		list = append(list, x.w.messages[i].Reply)
	}
	return list
}

// says asks and lets two rounds go by.
func (x *world) says(to api.Addr, q api.Request, want api.Reply) {
	x.t.Helper()
	from := x.ask(to, q)
	x.rounds(2)
	want.Client, want.Seq, want.Key = q.Client, q.Seq, q.Key
	for _, p := range x.replies(from) {
		if p == want {
			return
		}
	}
	x.t.Fatalf("P14: %+v to %+v\n got %+v\nwant %+v", q, to, x.replies(from), want)
}

func (x *world) log(a api.Addr) []api.Command { return x.c.Log(a) }

// kinds tells a log by the kinds of its commands.
func kinds(log []api.Command) string {
	s := ""
	for _, c := range log {
		s += string("NCRS"[c.Kind])
	}
	return s
}

func get(client uint8, seq uint32, key uint64) api.Request {
	return api.Request{Client: client, Seq: seq, Kind: api.Get, Key: key}
}

func set(client uint8, seq uint32, key, value uint64) api.Request {
	return api.Request{Client: client, Seq: seq, Kind: api.Set, Key: key, Value: value}
}

func remove(client uint8, seq uint32, key uint64) api.Request {
	return api.Request{Client: client, Seq: seq, Kind: api.Delete, Key: key}
}

func delegate(client uint8, seq uint32, lo, hi uint64, to uint8) api.Request {
	return api.Request{Client: client, Seq: seq, Kind: api.Delegate, Key: lo, Hi: hi, To: to}
}

var (
	ok    = api.Reply{Kind: api.Ok}
	full  = api.Reply{Kind: api.Full}
	stale = api.Reply{Kind: api.Stale}
	none  = api.Reply{Kind: api.Value}
)

func value(v uint64) api.Reply {
	return api.Reply{Kind: api.Value, Found: true, Value: v}
}

func redirect(group uint8) api.Reply {
	return api.Reply{Kind: api.Redirect, Group: group}
}
