package cluster

import (
	"maps"

	"handover/api"
	"handover/shard"
	"handover/wire"
)

// A record is what a replica must not forget: without it, it could help to
// agree on a second command for one slot.
type record struct {
	ballot api.Ballot // nothing below it is voted for
	votes  map[uint32]api.Vote
}

type role int

const (
	following role = iota
	campaigning
	leading
)

// A replica is one of those that agree on the log of a group.
type replica struct {
	at     api.Addr
	groups int // in the cluster
	size   int // of each group

	record         // as this step has it
	written record // as a crash leaves it

	seen   uint32                 // the greatest N of all ballots that were met
	known  map[uint32]api.Command // agreed on, but waiting for an earlier slot
	log    []api.Command
	state  api.Shard
	outbox []api.Packet

	role      role
	promised  crowd               // to the campaign
	met       map[uint32]api.Vote // by the campaign: of each slot the highest
	next      uint32              // slot to propose for
	proposals map[uint32]api.Command
	accepted  map[uint32]crowd // for each proposal
}

func newReplica(at api.Addr, groups, size int) *replica {
	r := &replica{
		at:        at,
		groups:    groups,
		size:      size,
		record:    record{votes: map[uint32]api.Vote{}},
		written:   record{votes: map[uint32]api.Vote{}},
		known:     map[uint32]api.Command{},
		met:       map[uint32]api.Vote{},
		proposals: map[uint32]api.Command{},
		accepted:  map[uint32]crowd{},
	}
	r.start()
	return r
}

// start begins anew with what is written down.
func (r *replica) start() {
	r.standDown()
	clear(r.known)
	clear(r.votes)
	maps.Copy(r.votes, r.written.votes)
	r.ballot = r.written.ballot
	r.seen = r.ballot.N
	r.log = nil
	r.state, _ = shard.Begin(int(r.at.Group), r.groups)
}

// writeDown needs to take nothing out: a vote gives way to a higher one alone.
func (r *replica) writeDown() {
	r.written.ballot = r.ballot
	maps.Copy(r.written.votes, r.votes)
}

// take works on a packet that arrives.
func (r *replica) take(p api.Packet) {
	m, e := wire.Parse(p.Data)
	if e != api.OK || p.From.Group == api.ClientGroup && m.Kind != api.Ask {
		return
	}
	r.seen = max(r.seen, m.Ballot.N)
	switch m.Kind {
	case api.Ask:
		r.ask(m.Request)
	case api.Prepare:
		r.takePrepare(p.From, m.Ballot)
	case api.Promise:
		r.takePromise(p.From, m.Ballot, m.Votes)
	case api.Reject:
		r.takeReject(m.Ballot)
	case api.Accept:
		r.takeAccept(p.From, m)
	case api.Accepted:
		r.takeAccepted(p.From, m)
	case api.Decide:
		r.agree(m.Slot, m.Command)
	case api.Move:
		r.takeMove(p.From, m.Range)
	case api.Ack:
		r.takeAck(m.Peer, m.Seq)
	}
}

// send keeps a message for the end of the step.
func (r *replica) send(m api.Message, to ...api.Addr) {
	// What came in was right, and all logs together are too short for a list of
	// more than 255: so this is right too.
	data, _ := wire.Marshal(m)
	for _, a := range to {
		r.outbox = append(r.outbox, api.Packet{From: r.at, To: a, Data: data})
	}
}

// others is every replica of a group but this one itself.
func (r *replica) others(group uint8) []api.Addr {
	var list []api.Addr
	for i := range r.size {
		if a := (api.Addr{Group: group, Replica: uint8(i)}); a != r.at {
			list = append(list, a)
		}
	}
	return list
}

func (r *replica) peers() []api.Addr { return r.others(r.at.Group) }
