// Package right: when a message, and what it is made of, is right: see the section 'Words' of DOC.md.
package right

import "handover/api"

// Message tells whether a message is right. Here and below, what the kind
// names is judged and then blanked in the copy that came in, so that one
// question covers all fields that the kind does not name.
func Message(m api.Message) bool {
	ok := true
	switch m.Kind {
	case api.Ask:
		ok = Request(m.Request)
		m.Request = api.Request{}
	case api.Tell:
		ok = reply(m.Reply)
		m.Reply = api.Reply{}
	case api.Prepare, api.Reject:
		m.Ballot = api.Ballot{}
	case api.Promise:
		ok = votes(m.Votes)
		m.Ballot, m.Votes = api.Ballot{}, nil
	case api.Accept:
		ok = command(m.Command)
		m.Ballot, m.Slot, m.Command = api.Ballot{}, 0, api.Command{}
	case api.Accepted:
		m.Ballot, m.Slot = api.Ballot{}, 0
	case api.Decide:
		ok = command(m.Command)
		m.Slot, m.Command = 0, api.Command{}
	case api.Move:
		ok = Range(m.Range)
		m.Range = api.Range{}
	case api.Ack:
		ok = group(m.Peer)
		m.Peer, m.Seq = 0, 0
	default:
		return false
	}
	return ok && noFields(m)
}

// noFields tells whether a message has nothing but its Kind.
func noFields(m api.Message) bool {
	return m.Request == (api.Request{}) && m.Reply == (api.Reply{}) &&
		m.Ballot == (api.Ballot{}) && m.Slot == 0 &&
		m.Command.Kind == api.Nop && noCommandFields(m.Command) &&
		len(m.Votes) == 0 && noRange(m.Range) &&
		m.Peer == 0 && m.Seq == 0
}

func group(g uint8) bool { return g < api.MaxGroups }

func asker(client uint8, seq uint32) bool {
	return client < api.MaxClients && seq >= 1
}

// Request tells whether a request is right.
func Request(q api.Request) bool {
	ok := asker(q.Client, q.Seq)
	switch q.Kind {
	case api.Get, api.Delete:
	case api.Set:
		q.Value = 0
	case api.Delegate:
		ok = ok && q.Key <= q.Hi && group(q.To)
		q.Hi, q.To = 0, 0
	default:
		return false
	}
	return ok && q.Value == 0 && q.Hi == 0 && q.To == 0
}

func reply(p api.Reply) bool {
	ok := asker(p.Client, p.Seq)
	switch p.Kind {
	case api.Value:
		ok = ok && (p.Found || p.Value == 0)
		p.Found, p.Value = false, 0
	case api.Redirect:
		ok = ok && group(p.Group)
		p.Group = 0
	case api.Ok, api.Stale, api.Full:
	default:
		return false
	}
	return ok && !p.Found && p.Value == 0 && p.Group == 0
}

func command(c api.Command) bool {
	ok := true
	switch c.Kind {
	case api.Nop:
	case api.Client:
		ok = Request(c.Request)
		c.Request = api.Request{}
	case api.Receive:
		ok = Range(c.Range)
		c.Range = api.Range{}
	case api.Settle:
		ok = group(c.Peer)
		c.Peer, c.Seq = 0, 0
	default:
		return false
	}
	return ok && noCommandFields(c)
}

// noCommandFields tells whether a command has nothing but its Kind.
func noCommandFields(c api.Command) bool {
	return c.Request == (api.Request{}) && noRange(c.Range) && c.Peer == 0 && c.Seq == 0
}

func votes(list []api.Vote) bool {
	if len(list) > api.MaxList {
		return false
	}
	for i, v := range list {
		if i > 0 && v.Slot <= list[i-1].Slot {
			return false
		}
		if !command(v.Command) {
			return false
		}
	}
	return true
}
