package cluster_test

import (
	"slices"

	"handover/api"
	"handover/ranges"
	"handover/shard"
	"handover/wire"
)

// A witness looks at a world from outside. Behind every call it asks P8 of the
// new packets, P9, P10 and P12 of the logs, and P13 of all keys; P14 (once) and
// P15 (inTheEnd) when it is told to.
type witness struct {
	x        *world
	packets  []api.Packet
	messages []api.Message // a zero one for junk
	best     [][]api.Command
	states   [][]api.Shard // of each group, behind so many commands of its best log
	replies  [][]api.Reply
	lengths  map[api.Addr]int
	asked    []map[api.Request]int // of each group: the first packet with it
	voted    map[api.Addr]uint32   // one more than the highest slot voted for
	met      map[campaign]uint32   // the same, of the votes that came for a ballot
	keys     []uint64              // those that were asked for, and their neighbours
	seqs     map[uint8]uint32      // the highest of each client
}

type campaign struct {
	a api.Addr
	b api.Ballot
}

func newWitness(x *world) *witness {
	w := &witness{x: x, lengths: map[api.Addr]int{}, voted: map[api.Addr]uint32{}, met: map[campaign]uint32{}, keys: []uint64{0, most}, seqs: map[uint8]uint32{}}
	for g := range x.groups {
		s, _ := shard.Begin(g, x.groups)
		w.best = append(w.best, nil)
		w.states = append(w.states, []api.Shard{s})
		w.replies = append(w.replies, nil)
		w.asked = append(w.asked, map[api.Request]int{})
	}
	return w
}

// look is told who has crashed just now, if anybody.
func (w *witness) look(crashed *api.Addr) {
	w.x.t.Helper()
	for _, p := range w.x.c.Packets(len(w.packets)) {
		w.lookAtPacket(p)
	}
	grown := false
	for g := range w.x.groups {
		for i := range w.x.size {
			a := at(g, i)
			grown = w.lookAtLog(a, crashed != nil && *crashed == a) || grown
		}
	}
	if grown {
		w.oneHolder()
	}
}

func (w *witness) there(a api.Addr) bool {
	return int(a.Group) < w.x.groups && int(a.Replica) < w.x.size
}

func (w *witness) lookAtPacket(p api.Packet) {
	w.x.t.Helper()
	number := len(w.packets)
	m, e := wire.Parse(p.Data)
	w.packets = append(w.packets, p)
	w.messages = append(w.messages, m)
	if p.From == clients {
		if _, known := w.asked[p.To.Group][m.Request]; m.Kind == api.Ask && !known {
			w.asked[p.To.Group][m.Request] = number
			w.lookAt(m.Request)
		}
		return
	}
	toClient := p.To.Group == api.ClientGroup
	if e != api.OK || !w.there(p.From) || !toClient && !w.there(p.To) || toClient != (m.Kind == api.Tell) || toClient && m.Reply.Client != p.To.Replica || m.Kind == api.Ask {
		w.x.t.Fatalf("P8: packet %d: %+v: %+v", number, p, m)
	}
	w.lookAtVotes(p, m)
}

// lookAt takes the keys of a request into the witness's own.
func (w *witness) lookAt(q api.Request) {
	w.seqs[q.Client] = max(w.seqs[q.Client], q.Seq)
	for _, key := range []uint64{q.Key - 1, q.Key, q.Key + 1, q.Hi, q.Hi + 1} {
		if !slices.Contains(w.keys, key) {
			w.keys = append(w.keys, key)
		}
	}
}

// lookAtVotes asks of every Nop that is laid down whether it may be (P12).
func (w *witness) lookAtVotes(p api.Packet, m api.Message) {
	w.x.t.Helper()
	switch m.Kind {
	case api.Promise:
		for _, v := range m.Votes {
			w.met[campaign{p.To, m.Ballot}] = max(w.met[campaign{p.To, m.Ballot}], v.Slot+1)
		}
	case api.Accepted:
		w.voted[p.From] = max(w.voted[p.From], m.Slot+1)
	case api.Accept:
		met := max(w.voted[p.From], w.met[campaign{p.From, m.Ballot}])
		if m.Command.Kind == api.Nop && met <= m.Slot+1 && len(w.packets) < api.MaxPackets {
			w.x.t.Fatalf("P12: a Nop for slot %d, no vote met above it: %+v", m.Slot, p)
		}
		w.voted[p.From] = max(w.voted[p.From], m.Slot+1)
	}
}

func sameRange(a, b api.Range) bool {
	return a.Src == b.Src && a.Dst == b.Dst && a.Seq == b.Seq && a.Lo == b.Lo && a.Hi == b.Hi &&
		slices.Equal(a.Rows, b.Rows) && slices.Equal(a.Dups, b.Dups)
}

func sameCommand(a, b api.Command) bool {
	return a.Kind == b.Kind && a.Request == b.Request && a.Peer == b.Peer && a.Seq == b.Seq && sameRange(a.Range, b.Range)
}

// lookAtLog tells whether the log is longer than any of its group was.
func (w *witness) lookAtLog(a api.Addr, crashed bool) bool {
	w.x.t.Helper()
	log, best := w.x.c.Log(a), w.best[a.Group]
	for i := range min(len(log), len(best)) {
		if !sameCommand(log[i], best[i]) {
			w.x.t.Fatalf("P10: command %d at %+v: %+v, but there was %+v", i, a, log[i], best[i])
		}
	}
	if len(log) < w.lengths[a] && !crashed {
		w.x.t.Fatalf("P10: the log at %+v has %d commands, had %d", a, len(log), w.lengths[a])
	}
	if len(log) > api.MaxSlots {
		w.x.t.Fatalf("P8: a log with %d commands", len(log))
	}
	grown := len(log) > len(best)
	for _, c := range log[min(len(log), len(best)):] {
		w.whence(a.Group, c)
		w.extend(a.Group, c)
	}
	if len(log) != w.lengths[a] || crashed {
		w.lookAtState(a, len(log))
	}
	w.lengths[a] = len(log)
	return grown
}

func (w *witness) lookAtState(a api.Addr, length int) {
	w.x.t.Helper()
	got, want := told(w.x.c.State(a)), told(w.states[a.Group][length])
	if got != want {
		w.x.t.Fatalf("P9: the state at %+v\n got %s\nwant %s", a, got, want)
	}
}

func (w *witness) extend(g uint8, c api.Command) {
	s, reply := shard.Apply(w.last(int(g)), c)
	w.best[g] = append(w.best[g], c)
	w.states[g] = append(w.states[g], s)
	w.replies[g] = append(w.replies[g], reply)
}

func (w *witness) last(g int) api.Shard { return w.states[g][len(w.states[g])-1] }

// whence is P12, but for the Nops.
func (w *witness) whence(g uint8, c api.Command) {
	w.x.t.Helper()
	fine := false
	switch c.Kind {
	case api.Nop:
		fine = w.x.size > 1 // alone, no slot is ever left out
	case api.Client:
		_, fine = w.asked[g][c.Request]
	case api.Receive:
		for _, s := range w.states[c.Range.Src] {
			fine = fine || slices.ContainsFunc(s.Out[g].Queue, func(r api.Range) bool { return sameRange(r, c.Range) })
		}
	case api.Settle:
		fine = w.last(int(c.Peer)).In[g] >= c.Seq
	}
	if !fine {
		w.x.t.Fatalf("P12: in a log of group %d: %+v", g, c)
	}
}

func (w *witness) oneHolder() {
	w.x.t.Helper()
	for _, key := range w.keys {
		n := 0
		for g := range w.x.groups {
			if owner, _ := ranges.Find(w.last(g).Map, key); int(owner) == g {
				n++
			}
			for dst, lane := range w.last(g).Out {
				for _, r := range lane.Queue {
					if r.Lo <= key && key <= r.Hi && r.Seq > w.last(dst).In[g] {
						n++
					}
				}
			}
		}
		if n != 1 {
			w.x.t.Fatalf("P13: the key %d is at %d places", key, n)
		}
	}
}

// A deed is a request that was done.
type deed struct {
	q api.Request
	p api.Reply
}

func remembered(p api.Reply) bool {
	return p.Kind == api.Value || p.Kind == api.Ok || p.Kind == api.Full
}

// follow goes a key's way (P14).
func (w *witness) follow(key uint64) []deed {
	var way []deed
	g := uint8(0)
	for i := 0; i < len(w.best[g]); i++ {
		c, before, reply := w.best[g][i], w.states[g][i], w.replies[g][i]
		if c.Kind != api.Client {
			continue
		}
		if c.Request.Key == key && remembered(reply) && !slices.Contains(before.Dups, reply) {
			way = append(way, deed{c.Request, reply})
		}
		if owner, _ := ranges.Find(w.states[g][i+1].Map, key); owner != g {
			to, seq := c.Request.To, before.Out[c.Request.To].Next
			i = w.cameIn(g, to, seq)
			if i < 0 {
				return way
			}
			g = to
		}
	}
	return way
}

// cameIn finds the command by which a range came in, if it did.
func (w *witness) cameIn(src, dst uint8, seq uint32) int {
	for i := range w.best[dst] {
		if w.states[dst][i].In[src] < seq && w.states[dst][i+1].In[src] == seq {
			return i
		}
	}
	return -1
}

// once is P14.
func (w *witness) once() {
	w.x.t.Helper()
	ways := map[uint64][]deed{}
	for _, key := range w.keys {
		ways[key] = w.follow(key)
		w.asPlainMap(key, ways[key])
	}
	for number, m := range w.messages {
		if m.Kind != api.Tell || w.packets[number].From == clients {
			continue
		}
		if !remembered(m.Reply) {
			w.changedNothing(w.packets[number].From.Group, m.Reply)
			continue
		}
		way := ways[m.Reply.Key]
		done := slices.IndexFunc(way, func(d deed) bool { return d.p == m.Reply })
		if done < 0 {
			w.x.t.Fatalf("P14: %+v was told, but not done", m.Reply)
		}
		for _, d := range way[:done] {
			if w.firstAsked(d.q) > number {
				w.x.t.Fatalf("P14: %+v was done ahead of %+v, which was told ahead of it", d.q, m.Reply)
			}
		}
	}
}

func (w *witness) firstAsked(q api.Request) int {
	first := len(w.packets)
	for _, asked := range w.asked {
		if number, known := asked[q]; known {
			first = min(first, number)
		}
	}
	return first
}

func (w *witness) asPlainMap(key uint64, way []deed) {
	w.x.t.Helper()
	var now api.Reply // what a Get tells
	now.Kind = api.Value
	seqs := map[uint8]uint32{}
	for _, d := range way {
		want := ok
		switch {
		case d.q.Kind == api.Get:
			want = now
		case d.p.Kind == api.Full && (d.q.Kind == api.Set || d.q.Kind == api.Delegate):
			want = full
		case d.q.Kind == api.Set:
			now = value(d.q.Value)
		case d.q.Kind == api.Delete:
			now = none
		}
		want.Client, want.Seq, want.Key = d.q.Client, d.q.Seq, key
		if d.p != want || d.q.Seq <= seqs[d.q.Client] {
			w.x.t.Fatalf("P14: on the way of %d: %+v, want %+v, behind Seq %d", key, d, want, seqs[d.q.Client])
		}
		seqs[d.q.Client] = d.q.Seq
	}
}

// changedNothing asks for a command that is answered so and changes nothing.
func (w *witness) changedNothing(g uint8, p api.Reply) {
	w.x.t.Helper()
	for i, reply := range w.replies[g] {
		if reply == p && told(w.states[g][i]) == told(w.states[g][i+1]) {
			return
		}
	}
	w.x.t.Fatalf("P14: group %d told %+v", g, p)
}

func (w *witness) anyFull() bool {
	for _, log := range w.best {
		if len(log) >= api.MaxSlots {
			return true
		}
	}
	return len(w.packets) >= api.MaxPackets
}

// inTheEnd is P15: it lets the rounds go by, and tells whether they did so with
// nothing full.
func (w *witness) inTheEnd() bool {
	w.x.t.Helper()
	w.x.lose()
	w.x.rounds(15)
	w.once()
	if w.anyFull() {
		return false
	}
	for g := range w.x.groups {
		if n := len(w.x.c.Log(at(g, 0))); n != len(w.best[g]) {
			w.x.t.Fatalf("P15: replica 0 of group %d has a log of %d commands, there was one of %d", g, n, len(w.best[g]))
		}
		for dst, lane := range w.x.c.State(at(g, 0)).Out {
			if len(lane.Queue) > 0 {
				w.x.t.Fatalf("P15: from %d to %d: %+v", g, dst, lane)
			}
		}
	}
	return w.answered()
}

// answered is the second half of P15, for some keys and every kind.
func (w *witness) answered() bool {
	w.x.t.Helper()
	for i, key := range []uint64{0, 5, most, 3, 7} {
		q := api.Request{Client: uint8(i % 4), Seq: w.seqs[uint8(i%4)] + 1, Kind: uint8(1 + i%4), Key: key}
		if q.Kind == api.Delegate {
			q.Hi, q.To = key, uint8(i)
		}
		g, here := w.has(key)
		if !here {
			w.x.t.Fatalf("P15: nobody has the key %d", key)
		}
		from := w.x.ask(at(g, 0), q)
		w.x.rounds(2)
		if w.anyFull() {
			return false
		}
		if !slices.ContainsFunc(w.x.replies(from), func(p api.Reply) bool {
			return p.Client == q.Client && p.Seq == q.Seq && p.Key == key && remembered(p)
		}) {
			w.x.t.Fatalf("P15: %+v: %+v", q, w.x.replies(from))
		}
	}
	w.once()
	return true
}

// has finds the group that has a key, if that is not on its way.
func (w *witness) has(key uint64) (int, bool) {
	for g := range w.x.groups {
		if owner, _ := ranges.Find(w.last(g).Map, key); int(owner) == g {
			return g, true
		}
	}
	return 0, false
}
