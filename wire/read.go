package wire

import "handover/api"

// source is bytes that are read from the front. Where they are cut short it
// gives zeros: Parse finds that out by writing what was read.
type source struct {
	rest string
}

func (in *source) number(size int) uint64 {
	if len(in.rest) < size {
		in.rest = ""
		return 0
	}
	var n uint64
	for i := range size {
		n = n<<8 | uint64(in.rest[i])
	}
	in.rest = in.rest[size:]
	return n
}

func (in *source) number8() uint8   { return uint8(in.number(1)) }
func (in *source) number32() uint32 { return uint32(in.number(4)) }
func (in *source) number64() uint64 { return in.number(8) }

// list ends where the bytes do: each thing in a list takes some, so a message
// with more things than that is none.
func list[T any](in *source, read func() T) []T {
	var all []T
	for range in.number8() {
		if in.rest == "" {
			break
		}
		all = append(all, read())
	}
	return all
}

func (in *source) message() api.Message {
	m := api.Message{Kind: in.number8()}
	switch m.Kind {
	case api.Ask:
		m.Request = in.request()
	case api.Tell:
		m.Reply = in.reply()
	case api.Prepare, api.Reject:
		m.Ballot = in.ballot()
	case api.Promise:
		m.Ballot = in.ballot()
		m.Votes = list(in, in.vote)
	case api.Accept:
		m.Ballot = in.ballot()
		m.Slot = in.number32()
		m.Command = in.command()
	case api.Accepted:
		m.Ballot = in.ballot()
		m.Slot = in.number32()
	case api.Decide:
		m.Slot = in.number32()
		m.Command = in.command()
	case api.Move:
		m.Range = in.keyRange()
	case api.Ack:
		m.Peer = in.number8()
		m.Seq = in.number32()
	}
	return m
}

func (in *source) request() api.Request {
	var q api.Request
	q.Client = in.number8()
	q.Seq = in.number32()
	q.Kind = in.number8()
	q.Key = in.number64()
	switch q.Kind {
	case api.Set:
		q.Value = in.number64()
	case api.Delegate:
		q.Hi = in.number64()
		q.To = in.number8()
	}
	return q
}

func (in *source) reply() api.Reply {
	var p api.Reply
	p.Client = in.number8()
	p.Seq = in.number32()
	p.Key = in.number64()
	p.Kind = in.number8()
	switch p.Kind {
	case api.Value:
		p.Found = in.number8() != 0
		if p.Found {
			p.Value = in.number64()
		}
	case api.Redirect:
		p.Group = in.number8()
	}
	return p
}

func (in *source) ballot() api.Ballot {
	var b api.Ballot
	b.N = in.number32()
	b.Id = in.number8()
	return b
}

func (in *source) vote() api.Vote {
	var v api.Vote
	v.Slot = in.number32()
	v.Ballot = in.ballot()
	v.Command = in.command()
	return v
}

func (in *source) command() api.Command {
	c := api.Command{Kind: in.number8()}
	switch c.Kind {
	case api.Client:
		c.Request = in.request()
	case api.Receive:
		c.Range = in.keyRange()
	case api.Settle:
		c.Peer = in.number8()
		c.Seq = in.number32()
	}
	return c
}

func (in *source) keyRange() api.Range {
	var r api.Range
	r.Src = in.number8()
	r.Dst = in.number8()
	r.Seq = in.number32()
	r.Lo = in.number64()
	r.Hi = in.number64()
	r.Rows = list(in, in.row)
	r.Dups = list(in, in.reply)
	return r
}

func (in *source) row() api.Row {
	var r api.Row
	r.Key = in.number64()
	r.Value = in.number64()
	return r
}
