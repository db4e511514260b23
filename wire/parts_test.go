package wire_test

import (
	"encoding/hex"
	"fmt"
	"reflect"
	"strings"
	"testing"

	"handover/api"
	"handover/wire"
)

const (
	most32 = 1<<32 - 1
	most64 = 1<<64 - 1

	key1  = uint64(0x0102030405060708)
	key2  = uint64(0x1112131415161718)
	hex1  = "0102030405060708"
	hex2  = "1112131415161718"
	hex0  = "0000000000000000"
	hexFF = "ffffffffffffffff"
)

// raw turns hexadecimal digits, with blanks between, into the bytes they mean.
func raw(t *testing.T, digits string) string {
	t.Helper()
	b, err := hex.DecodeString(strings.ReplaceAll(digits, " ", ""))
	if err != nil {
		t.Fatalf("%q: %v", digits, err)
	}
	return string(b)
}

// same takes nil and empty lists as alike, as the document does.
func same(a, b api.Message) bool {
	return fmt.Sprintf("%+v", a) == fmt.Sprintf("%+v", b)
}

// empty asks the quick way first: most messages here are made of zeros and nil.
func empty(m api.Message) bool {
	return reflect.ValueOf(m).IsZero() || same(m, api.Message{})
}

// bothWays checks that a message and its bytes are each other's answer.
func bothWays(t *testing.T, m api.Message, digits string) {
	t.Helper()
	want := raw(t, digits)
	if s, e := wire.Marshal(m); s != want || e != api.OK {
		t.Errorf("P3: Marshal(%+v)\n got %x, %d\nwant %x, %d", m, s, e, want, api.OK)
	}
	if got, e := wire.Parse(want); !same(got, m) || e != api.OK {
		t.Errorf("P4: Parse(%x)\n got %+v, %d\nwant %+v, %d", want, got, e, m, api.OK)
	}
}

func notRight(t *testing.T, m api.Message) {
	t.Helper()
	if s, e := wire.Marshal(m); s != "" || e != api.ErrMessage {
		t.Errorf("P3, P1: Marshal(%+v) = %x, %d, want nothing, %d", m, s, e, api.ErrMessage)
	}
}

func noMessage(t *testing.T, s string) {
	t.Helper()
	if m, e := wire.Parse(s); !empty(m) || e != api.ErrBytes {
		t.Errorf("P4, P1: Parse(%x) = %+v, %d, want nothing, %d", s, m, e, api.ErrBytes)
	}
}

// A part is something that messages are made of, with its bytes. A wrong part
// that no bytes can say has none.
type part[T any] struct {
	is     T
	digits string
}

// A carrier is a message with room for a part: what stands ahead of the part's
// bytes, and behind them.
type carrier[T any] struct {
	ahead  string
	wrap   func(T) api.Message
	behind string
}

var commandCarriers = []carrier[api.Command]{
	{"06 00000005 01 00000007", func(c api.Command) api.Message {
		return api.Message{Kind: api.Accept, Ballot: api.Ballot{N: 5, Id: 1}, Slot: 7, Command: c}
	}, ""},
	{"08 00000007", func(c api.Command) api.Message {
		return api.Message{Kind: api.Decide, Slot: 7, Command: c}
	}, ""},
	{"04 00000005 01 03 00000000 00000000 00 00 00000007 00000004 02", func(c api.Command) api.Message {
		return api.Message{Kind: api.Promise, Ballot: api.Ballot{N: 5, Id: 1}, Votes: []api.Vote{
			{}, {Slot: 7, Ballot: api.Ballot{N: 4, Id: 2}, Command: c}, {Slot: 8, Command: api.Command{Kind: api.Settle, Peer: 1, Seq: 2}},
		}}
	}, "00000008 00000000 00 03 01 00000002"},
}

func requestCarriers() []carrier[api.Request] {
	all := []carrier[api.Request]{{"01", func(q api.Request) api.Message {
		return api.Message{Kind: api.Ask, Request: q}
	}, ""}}
	for _, c := range commandCarriers {
		all = append(all, carrier[api.Request]{c.ahead + "01", func(q api.Request) api.Message {
			return c.wrap(api.Command{Kind: api.Client, Request: q})
		}, c.behind})
	}
	return all
}

func rangeCarriers() []carrier[api.Range] {
	all := []carrier[api.Range]{{"09", func(r api.Range) api.Message {
		return api.Message{Kind: api.Move, Range: r}
	}, ""}}
	for _, c := range commandCarriers {
		all = append(all, carrier[api.Range]{c.ahead + "02", func(r api.Range) api.Message {
			return c.wrap(api.Command{Kind: api.Receive, Range: r})
		}, c.behind})
	}
	return all
}

var tellCarrier = carrier[api.Reply]{"02", func(p api.Reply) api.Message {
	return api.Message{Kind: api.Tell, Reply: p}
}, ""}

func dupCarriers() []carrier[api.Reply] {
	var all []carrier[api.Reply]
	for _, c := range rangeCarriers() {
		all = append(all, carrier[api.Reply]{c.ahead + "01 02 00000003" + hex0 + hexFF + "00 01", func(p api.Reply) api.Message {
			return c.wrap(api.Range{Src: 1, Dst: 2, Seq: 3, Hi: most64, Dups: []api.Reply{p}})
		}, c.behind})
	}
	return all
}

func checkRight[T any](t *testing.T, carriers []carrier[T], parts []part[T]) {
	t.Helper()
	for _, c := range carriers {
		for _, p := range parts {
			bothWays(t, c.wrap(p.is), c.ahead+p.digits+c.behind)
		}
	}
}

func checkWrong[T any](t *testing.T, carriers []carrier[T], parts []part[T]) {
	t.Helper()
	for _, c := range carriers {
		for _, p := range parts {
			notRight(t, c.wrap(p.is))
			if p.digits != "" {
				noMessage(t, raw(t, c.ahead+p.digits+c.behind))
			}
		}
	}
}
