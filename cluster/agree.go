package cluster

import (
	"handover/api"
	"handover/shard"
)

// offer proposes a command for the next slot, if there is one, and if the
// command is not on its way into the log already.
func (r *replica) offer(c api.Command) {
	if r.next >= api.MaxSlots || holds(r.proposals, c) || holds(r.known, c) {
		return
	}
	slot := r.next
	r.next++
	r.propose(slot, c)
}

func holds(commands map[uint32]api.Command, c api.Command) bool {
	for _, other := range commands {
		if same(other, c) {
			return true
		}
	}
	return false
}

// same knows a range by whence it came and its Seq.
func same(a, b api.Command) bool {
	return a.Kind == b.Kind && a.Request == b.Request &&
		a.Range.Src == b.Range.Src && a.Range.Seq == b.Range.Seq &&
		a.Peer == b.Peer && a.Seq == b.Seq
}

func (r *replica) propose(slot uint32, c api.Command) {
	r.proposals[slot] = c
	r.vote(slot, c)
	r.sendAccept(slot, c)
	r.countAccepted(slot, r.at.Replica)
}

func (r *replica) sendAccept(slot uint32, c api.Command) {
	r.send(api.Message{Kind: api.Accept, Ballot: r.ballot, Slot: slot, Command: c}, r.peers()...)
}

func (r *replica) vote(slot uint32, c api.Command) {
	r.votes[slot] = api.Vote{Slot: slot, Ballot: r.ballot, Command: c}
}

func (r *replica) takeAccept(from api.Addr, m api.Message) {
	if r.refuse(from, m.Ballot) {
		return
	}
	r.vote(m.Slot, m.Command)
	r.send(api.Message{Kind: api.Accepted, Ballot: m.Ballot, Slot: m.Slot}, from)
}

func (r *replica) takeAccepted(from api.Addr, m api.Message) {
	if r.role == leading && m.Ballot == r.ballot {
		r.countAccepted(m.Slot, from.Replica)
	}
}

func (r *replica) countAccepted(slot uint32, replica uint8) {
	c, proposed := r.proposals[slot]
	if !proposed {
		return
	}
	r.accepted[slot] = r.accepted[slot].with(replica)
	if r.accepted[slot].isMost(r.size) {
		r.send(api.Message{Kind: api.Decide, Slot: slot, Command: c}, r.peers()...)
		r.agree(slot, c)
	}
}

// agree takes in that a command is agreed on, and does what can be done now.
func (r *replica) agree(slot uint32, c api.Command) {
	if slot < uint32(len(r.log)) {
		return
	}
	delete(r.proposals, slot)
	delete(r.accepted, slot)
	r.next = max(r.next, slot+1)
	r.known[slot] = c
	r.catchUp()
}

func (r *replica) catchUp() {
	for {
		slot := uint32(len(r.log))
		c, agreed := r.known[slot]
		if !agreed {
			return
		}
		delete(r.known, slot)
		r.do(c)
	}
}

func (r *replica) do(c api.Command) {
	var reply api.Reply
	r.state, reply = shard.Apply(r.state, c)
	r.log = append(r.log, c)
	if r.role == leading {
		r.answer(c, reply)
	}
}

// remind sends again what may have been lost: the proposals to this group, and
// the first range of each lane to the group that it goes to.
func (r *replica) remind() {
	for slot := range r.next {
		if c, proposed := r.proposals[slot]; proposed {
			r.sendAccept(slot, c)
		}
	}
	for group, lane := range r.state.Out {
		if len(lane.Queue) > 0 {
			r.send(api.Message{Kind: api.Move, Range: lane.Queue[0]}, r.others(uint8(group))...)
		}
	}
}
