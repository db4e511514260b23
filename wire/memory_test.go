package wire_test

import (
	"fmt"
	"reflect"
	"testing"

	"handover/api"
	"handover/wire"
)

// roomy has lists of many lengths, each with spare room that is not zero.
func roomy() api.Message {
	m := api.Message{Kind: api.Promise, Ballot: api.Ballot{N: 9}}
	for i := range 20 {
		r := api.Range{Src: 1, Seq: 1, Hi: most64}
		for j := range i {
			r.Rows = append(r.Rows, api.Row{Key: uint64(j), Value: uint64(i)})
			r.Dups = append(r.Dups, okReply(uint64(j), 1))
		}
		r.Rows = append(r.Rows, api.Row{Key: 77, Value: 77})[:i]
		r.Dups = append(r.Dups, okReply(77, 3))[:i]
		m.Votes = append(m.Votes, api.Vote{Slot: uint32(i), Command: api.Command{Kind: api.Receive, Range: r}})
	}
	m.Votes = append(m.Votes, api.Vote{Slot: 77})[:20]
	return m
}

// whole tells all that a message reaches, its lists' spare room too.
func whole(m api.Message) string {
	all := fmt.Sprintf("%+v", m)
	for _, v := range lists(reflect.ValueOf(m)) {
		all += fmt.Sprintf(" %d %d %+v", v.Len(), v.Cap(), v.Slice(0, v.Cap()).Interface())
	}
	return all
}

// lists finds all lists in a value, and those within them.
func lists(v reflect.Value) []reflect.Value {
	var all []reflect.Value
	switch v.Kind() {
	case reflect.Struct:
		for i := range v.NumField() {
			all = append(all, lists(v.Field(i))...)
		}
	case reflect.Slice:
		all = append(all, v)
		for i := range v.Len() {
			all = append(all, lists(v.Index(i))...)
		}
	}
	return all
}

func TestHandedInStays(t *testing.T) {
	wrong := roomy()
	wrong.Votes[19].Command.Range.Dups[18].Key = 0
	move := roomy().Votes[7].Command.Range
	for _, m := range []api.Message{
		roomy(), wrong, {Kind: api.Prepare, Votes: roomy().Votes}, {Kind: api.Move, Range: move},
		{Kind: api.Accept, Command: api.Command{Kind: api.Receive, Range: move}},
		{Kind: api.Accept, Command: api.Command{Kind: api.Settle, Range: move}},
	} {
		before := whole(m)
		first, e1 := wire.Marshal(m)
		if whole(m) != before {
			t.Errorf("P2: Marshal wrote into\n%s, now\n%s", before, whole(m))
		}
		if again, e2 := wire.Marshal(m); again != first || e2 != e1 {
			t.Errorf("P2: Marshal of one message: %x, %d and %x, %d", first, e1, again, e2)
		}
	}
}

// overlap tells whether two lists share memory, spare room and all.
func overlap(a, b reflect.Value) bool {
	from := func(v reflect.Value) uintptr { return v.Pointer() }
	to := func(v reflect.Value) uintptr { return v.Pointer() + uintptr(v.Cap())*v.Type().Elem().Size() }
	return a.Cap() > 0 && b.Cap() > 0 && from(a) < to(b) && from(b) < to(a)
}

func TestFreshMemory(t *testing.T) {
	var bytes []string
	for _, m := range []api.Message{roomy(), {Kind: api.Move, Range: manyRows(255).is}, {Kind: api.Move, Range: manyDups(255).is}, {Kind: api.Decide, Command: roomy().Votes[9].Command}} {
		s, e := wire.Marshal(m)
		if e != api.OK {
			t.Fatalf("P3: Marshal(%+v): %d", m, e)
		}
		bytes = append(bytes, s, s)
	}
	var all []reflect.Value
	var messages []api.Message
	for _, s := range bytes {
		m, e := wire.Parse(s)
		if e != api.OK {
			t.Fatalf("P4: Parse(%x): %d", s, e)
		}
		messages = append(messages, m)
		all = append(all, lists(reflect.ValueOf(m))...)
	}
	for i, a := range all {
		for _, b := range all[:i] {
			if overlap(a, b) {
				t.Fatalf("P2: two lists share memory: %+v and %+v", a, b)
			}
		}
	}
	checkApart(t, bytes, messages)
}

// checkApart writes all over one message after the other, and looks after the rest.
func checkApart(t *testing.T, bytes []string, messages []api.Message) {
	t.Helper()
	for i, m := range messages {
		found := lists(reflect.ValueOf(m))
		for k := len(found) - 1; k >= 0; k-- {
			room := found[k].Slice(0, found[k].Cap())
			for j := range room.Len() {
				room.Index(j).SetZero()
			}
		}
		for j := i + 1; j < len(messages); j++ {
			if s, e := wire.Marshal(messages[j]); s != bytes[j] || e != api.OK {
				t.Errorf("P2: writing into message %d changed message %d", i, j)
			}
		}
		if later, e := wire.Parse(bytes[i]); e != api.OK {
			t.Errorf("P2: Parse of the same bytes again: %+v, %d", later, e)
		} else if s, _ := wire.Marshal(later); s != bytes[i] {
			t.Errorf("P2: what was written into message %d came back", i)
		}
	}
}

// What one call answers does not hang on the calls ahead of it.
func TestArgumentsAlone(t *testing.T) {
	all := allRight(t)
	answer := func(s string) string {
		m, e := wire.Parse(s)
		return fmt.Sprintf("%+v %d", m, e)
	}
	var first []string
	for _, s := range all {
		first = append(first, answer(s))
	}
	for i := len(all) - 1; i >= 0; i-- {
		noMessage(t, all[i]+"x")
		if again := answer(all[i]); again != first[i] {
			t.Errorf("P2: Parse(%x): %s, and then %s", all[i], first[i], again)
		}
	}
}
