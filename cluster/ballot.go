package cluster

import (
	"maps"
	"math"

	"handover/api"
)

func below(a, b api.Ballot) bool {
	return a.N < b.N || a.N == b.N && a.Id < b.Id
}

// tick sends a Prepare even if this replica leads: where packets were lost,
// nothing else would tell it that another one has a higher ballot by now.
func (r *replica) tick() {
	if r.role == following {
		r.campaign()
	}
	if r.role == following {
		return
	}
	r.send(api.Message{Kind: api.Prepare, Ballot: r.ballot}, r.peers()...)
	if r.role == leading {
		r.remind()
	}
}

func (r *replica) campaign() {
	if !r.raise() {
		return
	}
	r.role = campaigning
	maps.Copy(r.met, r.votes)
	r.countPromise(r.at.Replica)
}

// raise takes a ballot that nobody had before: votes of one ballot for one slot
// must be for one command. Behind the last ballot there is none, but the network
// is full of Prepares long before that. One who is alone sends none, so it keeps
// its ballot instead: all votes that there are stand in its own record, so that
// it never votes for a second command for a slot.
func (r *replica) raise() bool {
	if r.size == 1 {
		return true
	}
	if r.seen == math.MaxUint32 {
		return false
	}
	r.seen++
	r.ballot = api.Ballot{N: r.seen, Id: r.at.Replica}
	return true
}

func (r *replica) takePrepare(from api.Addr, b api.Ballot) {
	if r.refuse(from, b) {
		return
	}
	r.send(api.Message{Kind: api.Promise, Ballot: b, Votes: r.voteList()}, from)
}

// refuse tells one whose ballot is too low so. A higher one is kept as a promise,
// with which no lead of this replica's own can last.
func (r *replica) refuse(from api.Addr, b api.Ballot) bool {
	if below(b, r.ballot) {
		r.send(api.Message{Kind: api.Reject, Ballot: r.ballot}, from)
		return true
	}
	if b != r.ballot {
		r.ballot = b
		r.standDown()
	}
	return false
}

func (r *replica) voteList() []api.Vote {
	var list []api.Vote
	for slot := range uint32(api.MaxSlots) {
		if v, voted := r.votes[slot]; voted {
			list = append(list, v)
		}
	}
	return list
}

func (r *replica) takePromise(from api.Addr, b api.Ballot, votes []api.Vote) {
	if r.role != campaigning || b != r.ballot {
		return
	}
	for _, v := range votes {
		if old, met := r.met[v.Slot]; !met || below(old.Ballot, v.Ballot) {
			r.met[v.Slot] = v
		}
	}
	r.countPromise(from.Replica)
}

func (r *replica) countPromise(replica uint8) {
	r.promised = r.promised.with(replica)
	if r.promised.isMost(r.size) {
		r.lead()
	}
}

// lead proposes anew what may have been agreed on already; a slot of which no
// vote was met has nothing agreed on, and a Nop fills it.
func (r *replica) lead() {
	r.role = leading
	r.next = uint32(len(r.log))
	for slot := range r.met {
		r.next = max(r.next, slot+1)
	}
	for slot := uint32(len(r.log)); slot < r.next; slot++ {
		if _, agreed := r.known[slot]; !agreed {
			r.propose(slot, r.met[slot].Command)
		}
	}
	clear(r.met)
}

func (r *replica) takeReject(b api.Ballot) {
	if below(r.ballot, b) {
		r.standDown()
	}
}

// standDown forgets what is of use only to one who leads, or wants to.
func (r *replica) standDown() {
	r.role = following
	r.promised = 0
	clear(r.met)
	clear(r.proposals)
	clear(r.accepted)
}
