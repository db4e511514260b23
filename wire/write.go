package wire

import "handover/api"

func put8(b []byte, n uint8) []byte { return append(b, n) }

func put32(b []byte, n uint32) []byte {
	return append(b, byte(n>>24), byte(n>>16), byte(n>>8), byte(n))
}

func put64(b []byte, n uint64) []byte {
	return put32(put32(b, uint32(n>>32)), uint32(n))
}

func putBool(b []byte, v bool) []byte {
	if v {
		return put8(b, 1)
	}
	return put8(b, 0)
}

// putList takes lists of right messages alone: their length fits into a byte.
func putList[T any](b []byte, list []T, put func([]byte, T) []byte) []byte {
	b = put8(b, uint8(len(list)))
	for _, v := range list {
		b = put(b, v)
	}
	return b
}

func putMessage(b []byte, m api.Message) []byte {
	b = put8(b, m.Kind)
	switch m.Kind {
	case api.Ask:
		b = putRequest(b, m.Request)
	case api.Tell:
		b = putReply(b, m.Reply)
	case api.Prepare, api.Reject:
		b = putBallot(b, m.Ballot)
	case api.Promise:
		b = putBallot(b, m.Ballot)
		b = putList(b, m.Votes, putVote)
	case api.Accept:
		b = putBallot(b, m.Ballot)
		b = put32(b, m.Slot)
		b = putCommand(b, m.Command)
	case api.Accepted:
		b = putBallot(b, m.Ballot)
		b = put32(b, m.Slot)
	case api.Decide:
		b = put32(b, m.Slot)
		b = putCommand(b, m.Command)
	case api.Move:
		b = putRange(b, m.Range)
	case api.Ack:
		b = put8(b, m.Peer)
		b = put32(b, m.Seq)
	}
	return b
}

func putRequest(b []byte, q api.Request) []byte {
	b = put8(b, q.Client)
	b = put32(b, q.Seq)
	b = put8(b, q.Kind)
	b = put64(b, q.Key)
	switch q.Kind {
	case api.Set:
		b = put64(b, q.Value)
	case api.Delegate:
		b = put64(b, q.Hi)
		b = put8(b, q.To)
	}
	return b
}

func putReply(b []byte, p api.Reply) []byte {
	b = put8(b, p.Client)
	b = put32(b, p.Seq)
	b = put64(b, p.Key)
	b = put8(b, p.Kind)
	switch p.Kind {
	case api.Value:
		b = putBool(b, p.Found)
		if p.Found {
			b = put64(b, p.Value)
		}
	case api.Redirect:
		b = put8(b, p.Group)
	}
	return b
}

func putBallot(b []byte, t api.Ballot) []byte {
	return put8(put32(b, t.N), t.Id)
}

func putVote(b []byte, v api.Vote) []byte {
	b = put32(b, v.Slot)
	b = putBallot(b, v.Ballot)
	return putCommand(b, v.Command)
}

func putCommand(b []byte, c api.Command) []byte {
	b = put8(b, c.Kind)
	switch c.Kind {
	case api.Client:
		b = putRequest(b, c.Request)
	case api.Receive:
		b = putRange(b, c.Range)
	case api.Settle:
		b = put8(b, c.Peer)
		b = put32(b, c.Seq)
	}
	return b
}

func putRange(b []byte, r api.Range) []byte {
	b = put8(b, r.Src)
	b = put8(b, r.Dst)
	b = put32(b, r.Seq)
	b = put64(b, r.Lo)
	b = put64(b, r.Hi)
	b = putList(b, r.Rows, putRow)
	return putList(b, r.Dups, putReply)
}

func putRow(b []byte, r api.Row) []byte {
	return put64(put64(b, r.Key), r.Value)
}
