package wire_test

import (
	"fmt"
	"reflect"
	"slices"
	"strings"
	"testing"

	"handover/api"
	"handover/wire"
)

var rightMessages = []part[api.Message]{
	{api.Message{Kind: api.Ask, Request: api.Request{Client: 1, Seq: 2, Kind: api.Set, Key: 3, Value: 4}}, "01 01 00000002 02" + hex3rd + hex4th},
	{api.Message{Kind: api.Tell, Reply: api.Reply{Seq: 1, Kind: api.Value}}, "02 00 00000001" + hex0 + "01 00"},
	{api.Message{Kind: api.Prepare, Ballot: api.Ballot{N: 5, Id: 1}}, "03 00000005 01"},
	{api.Message{Kind: api.Prepare}, "03 00000000 00"},
	{api.Message{Kind: api.Prepare, Ballot: api.Ballot{N: most32, Id: 255}}, "03 ffffffff ff"},
	{api.Message{Kind: api.Promise, Ballot: api.Ballot{N: 0x01020304, Id: 5}}, "04 01020304 05 00"},
	{api.Message{Kind: api.Promise, Votes: []api.Vote{{Ballot: api.Ballot{N: 7, Id: 3}}, {Slot: most32}}}, "04 00000000 00 02 00000000 00000007 03 00 ffffffff 00000000 00 00"},
	{api.Message{Kind: api.Reject, Ballot: api.Ballot{N: 0x01020304, Id: 5}}, "05 01020304 05"},
	{api.Message{Kind: api.Accept, Ballot: api.Ballot{N: 0x01020304, Id: 5}, Slot: 0x06070809}, "06 01020304 05 06070809 00"},
	{api.Message{Kind: api.Accepted, Ballot: api.Ballot{N: 0x01020304, Id: 5}, Slot: 0x06070809}, "07 01020304 05 06070809"},
	{api.Message{Kind: api.Accepted, Ballot: api.Ballot{N: most32, Id: 255}, Slot: most32}, "07 ffffffff ff ffffffff"},
	{api.Message{Kind: api.Decide, Slot: most32}, "08 ffffffff 00"},
	{api.Message{Kind: api.Move, Range: api.Range{Src: 1, Dst: 2, Seq: 7, Lo: 3, Hi: 9}}, "09" + to9 + "00 00"},
	{api.Message{Kind: api.Ack, Peer: 2, Seq: 7}, "0a 02 00000007"},
	{api.Message{Kind: api.Ack}, "0a 00 00000000"},
	{api.Message{Kind: api.Ack, Peer: 3, Seq: most32}, "0a 03 ffffffff"},
}

func TestMessages(t *testing.T) {
	for _, p := range rightMessages {
		bothWays(t, p.is, p.digits)
	}
}

func TestWrongMessages(t *testing.T) {
	for kind := range 256 {
		if kind < 1 || kind > 10 {
			notRight(t, api.Message{Kind: uint8(kind)})
			noMessage(t, raw(t, fmt.Sprintf("%02x", kind)))
			noMessage(t, raw(t, fmt.Sprintf("%02x 00000001 01", kind)))
		}
	}
	for _, p := range []part[api.Message]{
		{api.Message{Kind: api.Ack, Peer: 4}, "0a 04 00000000"},
		{api.Message{Kind: api.Ack, Peer: 255, Seq: 1}, "0a ff 00000001"},
		{api.Message{Kind: api.Promise, Votes: []api.Vote{{Slot: 1}, {Slot: 1}}}, "04 00000000 00 02 00000001 00000000 00 00 00000001 00000000 00 00"},
		{api.Message{Kind: api.Promise, Votes: []api.Vote{{Slot: 2}, {Slot: 1}}}, "04 00000000 00 02 00000002 00000000 00 00 00000001 00000000 00 00"},
		{api.Message{Kind: api.Promise, Votes: []api.Vote{{Slot: 1}, {Slot: 3}, {Slot: 2}}}, "04 00000000 00 03 00000001 00000000 00 00 00000003 00000000 00 00 00000002 00000000 00 00"},
	} {
		notRight(t, p.is)
		noMessage(t, raw(t, p.digits))
	}
}

var rightCommands = []part[api.Command]{
	{api.Command{}, "00"},
	{api.Command{Kind: api.Client, Request: api.Request{Client: 1, Seq: 2, Kind: api.Get, Key: 3}}, "01 01 00000002 01" + hex3rd},
	{api.Command{Kind: api.Receive, Range: api.Range{Src: 1, Dst: 2, Seq: 7, Lo: 3, Hi: 9}}, "02" + to9 + "00 00"},
	{api.Command{Kind: api.Settle, Peer: 2, Seq: 0x01020304}, "03 02 01020304"},
	{api.Command{Kind: api.Settle}, "03 00 00000000"},
	{api.Command{Kind: api.Settle, Peer: 3, Seq: most32}, "03 03 ffffffff"},
}

var wrongCommands = []part[api.Command]{
	{api.Command{Kind: 4}, "04"},
	{api.Command{Kind: 255}, "ff"},
	{api.Command{Kind: api.Settle, Peer: 4, Seq: 1}, "03 04 00000001"},
	{api.Command{Kind: api.Settle, Peer: 255, Seq: 1}, "03 ff 00000001"},
	{is: api.Command{Kind: api.Client}},
	{is: api.Command{Kind: api.Receive}},
}

func TestCommands(t *testing.T) {
	checkRight(t, commandCarriers, rightCommands)
	checkWrong(t, commandCarriers, wrongCommands)
}

func TestManyVotes(t *testing.T) {
	for _, n := range []int{1, 254, 255, 256, 257, 511, 100000} {
		m := api.Message{Kind: api.Promise}
		var b strings.Builder
		fmt.Fprintf(&b, "04 00000000 00 %02x", uint8(n))
		for i := range n {
			m.Votes = append(m.Votes, api.Vote{Slot: uint32(i)})
			fmt.Fprintf(&b, "%08x 00000000 00 00", i)
		}
		if n <= 255 {
			bothWays(t, m, b.String())
			continue
		}
		notRight(t, m)
		noMessage(t, raw(t, b.String()))
	}
}

// leaves visits the fields of a struct, and those of structs within it; lists
// are visited whole.
func leaves(v reflect.Value, path string, visit func(string, reflect.Value)) {
	for i := range v.NumField() {
		f, name := v.Field(i), path+v.Type().Field(i).Name
		if f.Kind() == reflect.Struct {
			leaves(f, name+".", visit)
			continue
		}
		visit(name, f)
	}
}

// fill makes a field the least that is not empty.
func fill(f reflect.Value) {
	switch f.Kind() {
	case reflect.Bool:
		f.SetBool(true)
	case reflect.Slice:
		f.Set(reflect.MakeSlice(f.Type(), 1, 1))
	default:
		f.SetUint(1)
	}
}

// Each field of a message, of its command and of all the rest that its kind
// does not name must be empty.
func TestUnnamedFields(t *testing.T) {
	const (
		inRequest = "Request.Client Request.Seq Request.Kind Request.Key "
		inReply   = "Reply.Client Reply.Seq Reply.Key Reply.Kind "
		inBallot  = "Ballot.N Ballot.Id "
		inRange   = "Range.Src Range.Dst Range.Seq Range.Lo Range.Hi Range.Rows Range.Dups "
		inClient  = "Command.Kind Command.Request.Client Command.Request.Seq Command.Request.Kind Command.Request.Key "
		inReceive = "Command.Kind Command.Range.Src Command.Range.Dst Command.Range.Seq Command.Range.Lo Command.Range.Hi Command.Range.Rows Command.Range.Dups "
		inSettle  = "Command.Kind Command.Peer Command.Seq "
	)
	get := api.Request{Seq: 1, Kind: api.Get}
	delegate := api.Request{Seq: 1, Kind: api.Delegate}
	move := api.Range{Seq: 1}
	client := api.Command{Kind: api.Client, Request: get}
	receive := api.Command{Kind: api.Receive, Range: move}
	settle := api.Command{Kind: api.Settle}
	for _, c := range []struct {
		m     api.Message
		named string
	}{
		{api.Message{Kind: api.Ask, Request: get}, inRequest},
		{api.Message{Kind: api.Ask, Request: api.Request{Seq: 1, Kind: api.Set}}, inRequest + "Request.Value"},
		{api.Message{Kind: api.Ask, Request: api.Request{Seq: 1, Kind: api.Delete}}, inRequest},
		{api.Message{Kind: api.Ask, Request: delegate}, inRequest + "Request.Hi Request.To"},
		{api.Message{Kind: api.Tell, Reply: api.Reply{Seq: 1, Kind: api.Value}}, inReply + "Reply.Found"},
		{api.Message{Kind: api.Tell, Reply: api.Reply{Seq: 1, Kind: api.Value, Found: true}}, inReply + "Reply.Found Reply.Value"},
		{api.Message{Kind: api.Tell, Reply: api.Reply{Seq: 1, Kind: api.Ok}}, inReply},
		{api.Message{Kind: api.Tell, Reply: api.Reply{Seq: 1, Kind: api.Redirect}}, inReply + "Reply.Group"},
		{api.Message{Kind: api.Tell, Reply: api.Reply{Seq: 1, Kind: api.Stale}}, inReply},
		{api.Message{Kind: api.Tell, Reply: api.Reply{Seq: 1, Kind: api.Full}}, inReply},
		{api.Message{Kind: api.Prepare}, inBallot},
		{api.Message{Kind: api.Promise}, inBallot + "Votes"},
		{api.Message{Kind: api.Reject}, inBallot},
		{api.Message{Kind: api.Accept}, inBallot + "Slot Command.Kind"},
		{api.Message{Kind: api.Accept, Command: client}, inBallot + "Slot " + inClient},
		{api.Message{Kind: api.Accept, Command: receive}, inBallot + "Slot " + inReceive},
		{api.Message{Kind: api.Accept, Command: settle}, inBallot + "Slot " + inSettle},
		{api.Message{Kind: api.Accepted}, inBallot + "Slot"},
		{api.Message{Kind: api.Decide}, "Slot Command.Kind"},
		{api.Message{Kind: api.Decide, Command: client}, "Slot " + inClient},
		{api.Message{Kind: api.Decide, Command: receive}, "Slot " + inReceive},
		{api.Message{Kind: api.Decide, Command: settle}, "Slot " + inSettle},
		{api.Message{Kind: api.Move, Range: move}, inRange},
		{api.Message{Kind: api.Ack}, "Peer Seq"},
	} {
		if _, e := wire.Marshal(c.m); e != api.OK {
			t.Errorf("P3: Marshal(%+v): %d, want %d", c.m, e, api.OK)
		}
		named := append(strings.Fields(c.named), "Kind")
		tried := 0
		m := c.m
		leaves(reflect.ValueOf(&m).Elem(), "", func(name string, f reflect.Value) {
			if slices.Contains(named, name) {
				tried++
				return
			}
			fill(f)
			if s, e := wire.Marshal(m); s != "" || e != api.ErrMessage {
				t.Errorf("P3: Marshal with %s: %+v = %x, %d", name, m, s, e)
			}
			f.SetZero()
		})
		if tried != len(named) {
			t.Errorf("names of fields: %d of %d are some: %v", tried, len(named), named)
		}
	}
}

// A command in a vote keeps to its kind too.
func TestUnnamedInVotes(t *testing.T) {
	for _, p := range rightCommands {
		c := p.is
		c.Kind = api.Nop
		if empty(api.Message{Command: c}) {
			continue
		}
		checkWrong(t, commandCarriers, []part[api.Command]{{is: c}})
	}
	for _, c := range []api.Command{
		{Kind: api.Settle, Request: api.Request{Client: 1}},
		{Kind: api.Settle, Range: api.Range{Rows: make([]api.Row, 1)}},
		{Kind: api.Settle, Range: api.Range{Dups: make([]api.Reply, 1)}},
	} {
		checkWrong(t, commandCarriers, []part[api.Command]{{is: c}})
	}
}

// An empty list is as good as nil, where a list is named and where none is.
func TestEmptyLists(t *testing.T) {
	rows, dups := []api.Row{}, make([]api.Reply, 0, 9)
	for _, p := range rightMessages {
		m := p.is
		m.Command.Range.Rows, m.Command.Range.Dups = rows, dups
		m.Range.Rows, m.Range.Dups = rows, dups
		if m.Votes == nil {
			m.Votes = []api.Vote{}
		}
		bothWays(t, m, p.digits)
	}
}
