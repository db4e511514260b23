package cluster

import (
	"slices"

	"handover/api"
	"handover/shard"
)

// ask takes no slot for what was done already. Other replies go through the
// log, even if they change nothing: one who leads no more would tell old news.
func (r *replica) ask(q api.Request) {
	if r.role != leading {
		return
	}
	c := api.Command{Kind: api.Client, Request: q}
	_, reply := shard.Apply(r.state, c)
	if slices.Contains(r.state.Dups, reply) {
		r.tell(reply)
		return
	}
	r.offer(c)
}

func (r *replica) tell(reply api.Reply) {
	client := api.Addr{Group: api.ClientGroup, Replica: reply.Client}
	r.send(api.Message{Kind: api.Tell, Reply: reply}, client)
}

// answer tells whoever waits for a command that it is done.
func (r *replica) answer(c api.Command, reply api.Reply) {
	switch c.Kind {
	case api.Client:
		r.tell(reply)
	case api.Receive:
		r.acknowledge(c.Range.Src, r.others(c.Range.Src))
	}
}

// acknowledge tells a group up to which one its ranges have come in.
func (r *replica) acknowledge(src uint8, to []api.Addr) {
	r.send(api.Message{Kind: api.Ack, Peer: r.at.Group, Seq: r.state.In[src]}, to...)
}

func (r *replica) takeMove(from api.Addr, moved api.Range) {
	if r.role != leading {
		return
	}
	switch last := r.state.In[moved.Src]; {
	case moved.Seq <= last:
		r.acknowledge(moved.Src, []api.Addr{from})
	case moved.Seq == last+1:
		r.offer(api.Command{Kind: api.Receive, Range: moved})
	}
}

func (r *replica) takeAck(peer uint8, seq uint32) {
	if r.role != leading {
		return
	}
	queue := r.state.Out[peer].Queue
	if len(queue) > 0 && queue[0].Seq <= seq {
		r.offer(api.Command{Kind: api.Settle, Peer: peer, Seq: seq})
	}
}
