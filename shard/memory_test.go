package shard_test

import (
	"fmt"
	"reflect"
	"testing"

	"handover/api"
	"handover/shard"
)

// lists finds all lists in a value, and those within them.
func lists(v reflect.Value) []reflect.Value {
	var all []reflect.Value
	switch v.Kind() {
	case reflect.Struct:
		for i := range v.NumField() {
			all = append(all, lists(v.Field(i))...)
		}
	case reflect.Slice:
		all = append(all, v)
		for i := range v.Len() {
			all = append(all, lists(v.Index(i))...)
		}
	}
	return all
}

// whole tells all that a value reaches, its lists' spare room too.
func whole(v any) string {
	all := fmt.Sprintf("%+v", v)
	for _, list := range lists(reflect.ValueOf(v)) {
		if list.Len() < list.Cap() {
			all += fmt.Sprintf(" %d %d %+v", list.Len(), list.Cap(), list.Slice(0, list.Cap()).Interface())
		}
	}
	return all
}

// overlap tells whether two lists share memory, spare room and all.
func overlap(a, b reflect.Value) bool {
	from := func(v reflect.Value) uintptr { return v.Pointer() }
	to := func(v reflect.Value) uintptr { return v.Pointer() + uintptr(v.Cap())*v.Type().Elem().Size() }
	return a.Cap() > 0 && b.Cap() > 0 && from(a) < to(b) && from(b) < to(a)
}

// checkNoneShared asks that no list of what came out shares memory with
// another of its own, nor with the shard and the command that went in.
func checkNoneShared(t *testing.T, s api.Shard, c api.Command, next api.Shard) {
	t.Helper()
	in := append(lists(reflect.ValueOf(s)), lists(reflect.ValueOf(c))...)
	out := lists(reflect.ValueOf(next))
	for i, a := range out {
		for _, b := range append(in, out[:i]...) {
			if overlap(a, b) {
				t.Fatalf("P2: behind %+v, two lists share memory: %+v and %+v", c, a, b)
			}
		}
	}
}

// roomy is a copy of a value in which every list has spare room that is not
// zero.
func roomy(v reflect.Value) reflect.Value {
	out := reflect.New(v.Type()).Elem()
	switch v.Kind() {
	case reflect.Struct:
		for i := range v.NumField() {
			out.Field(i).Set(roomy(v.Field(i)))
		}
	case reflect.Slice:
		room := reflect.MakeSlice(v.Type(), v.Len()+3, v.Len()+3)
		for i := range room.Len() {
			room.Index(i).Set(odd(v.Type().Elem()))
		}
		for i := range v.Len() {
			room.Index(i).Set(roomy(v.Index(i)))
		}
		out.Set(room.Slice(0, v.Len()))
	default:
		out.Set(v)
	}
	return out
}

// odd is a value with a 77 in each of its numbers.
func odd(t reflect.Type) reflect.Value {
	v := reflect.New(t).Elem()
	switch {
	case t.Kind() == reflect.Struct:
		for i := range t.NumField() {
			v.Field(i).Set(odd(t.Field(i).Type))
		}
	case v.CanUint():
		v.SetUint(77)
	}
	return v
}

// wipe writes into all that a shard reaches.
func wipe(s api.Shard) {
	found := lists(reflect.ValueOf(s))
	for i := len(found) - 1; i >= 0; i-- {
		room := found[i].Slice(0, found[i].Cap())
		for j := range room.Len() {
			room.Index(j).Set(odd(room.Type().Elem()))
		}
	}
}

// busy is a shard of the group 1 of 3 in which no list is empty but its own
// lane.
func busy(t *testing.T) api.Shard {
	t.Helper()
	s := begin(t, 1, 3)
	s = silent(t, s, receive(api.Range{
		Src: 0, Dst: 1, Seq: 1, Lo: 10, Hi: 59,
		Rows: rows(10, 1, 20, 2, 30, 3, 40, 4, 41, 5),
		Dups: []api.Reply{reply(0, 5, 10, ok), reply(3, 5, 10, full), reply(1, 9, 20, value(2)), reply(2, 9, 40, none)},
	}))
	s = silent(t, s, receive(api.Range{Src: 2, Dst: 1, Seq: 1, Lo: 60, Hi: 99, Rows: rows(95, 6)}))
	s = says(t, s, delegate(1, 10, 20, 21, 0), ok)
	s = says(t, s, delegate(1, 10, 41, 42, 0), ok)
	s = says(t, s, delegate(1, 10, 95, 99, 2), ok)
	return says(t, s, get(0, 6, 10), value(1))
}

// everyWay has commands for every way through Apply, for the shard busy.
func everyWay() []api.Command {
	all := []api.Command{
		{}, {Kind: 4}, {Kind: 255}, {Kind: api.Client}, {Kind: api.Receive},
		settle(0, 0), settle(0, 1), settle(0, 2), settle(0, most32), settle(1, 9), settle(2, 1), settle(3, 1), settle(255, 1),
		receive(api.Range{Src: 0, Dst: 1, Seq: 2, Lo: 0, Hi: most}),
		receive(api.Range{Src: 0, Dst: 1, Seq: 2, Lo: 30, Hi: 95, Rows: rows(30, 8, 31, 9), Dups: []api.Reply{reply(0, 1, 33, ok), reply(1, 1, 33, full)}}),
		receive(api.Range{Src: 2, Dst: 1, Seq: 2, Lo: 10, Hi: 10, Rows: rows(10, 8)}),
		receive(api.Range{Src: 2, Dst: 1, Seq: 3, Lo: 10, Hi: 10, Rows: rows(10, 8)}),
		receive(api.Range{Src: 2, Dst: 1, Seq: 2, Lo: 10, Hi: 10, Rows: rows(11, 8)}),
	}
	for _, q := range []api.Request{
		get(0, 6, 10), get(0, 5, 10), get(0, 7, 10), get(1, 1, 10), get(1, 1, 11), get(1, 1, 20), get(1, 1, 9),
		set(0, 7, 10, 5), set(1, 1, 11, 5), set(1, 1, 20, 5), set(1, 1, 10, 5),
		remove(0, 7, 10), remove(1, 1, 11), remove(1, 1, 30), remove(1, 1, 95),
		delegate(1, 1, 10, 19, 0), delegate(1, 1, 10, 19, 2), delegate(1, 1, 22, 40, 0), delegate(1, 1, 80, 94, 2), delegate(1, 1, 30, 39, 2), delegate(1, 1, 15, 15, 2), delegate(1, 1, 10, 10, 1), delegate(1, 1, 10, 10, 3),
		delegate(1, 1, 10, 20, 0), delegate(1, 1, 0, most, 0), delegate(0, 6, 10, 19, 0),
	} {
		all = append(all, api.Command{Kind: api.Client, Request: q})
	}
	return all
}

func TestHandedInStays(t *testing.T) {
	s := roomy(reflect.ValueOf(busy(t))).Interface().(api.Shard)
	for _, c := range everyWay() {
		c = roomy(reflect.ValueOf(c)).Interface().(api.Command)
		first, p := apply(t, s, c)
		again, q := apply(t, s, c)
		if told(first) != told(again) || p != q {
			t.Errorf("P2: Apply of %+v, twice:\n%s, %+v\n%s, %+v", c, told(first), p, told(again), q)
		}
	}
}

// Whatever the caller writes into one answer, no other answer changes.
func TestWrittenInto(t *testing.T) {
	s := busy(t)
	for _, c := range everyWay() {
		for _, d := range everyWay() {
			next, _ := apply(t, s, c)
			further, _ := apply(t, next, d)
			want := told(further)
			command := whole(c) + whole(d)
			again, _ := apply(t, s, c)
			wipe(next)
			if told(further) != want || whole(c)+whole(d) != command {
				t.Fatalf("P2: writing into what %+v gave changed what %+v gave then", c, d)
			}
			if more, _ := apply(t, again, d); told(more) != want {
				t.Fatalf("P2: writing into what %+v gave changed what it gave again", c)
			}
		}
	}
	if told(s) != told(busy(t)) {
		t.Errorf("P2: writing into what came out changed what went in: %s", told(s))
	}
}

func TestFreshBegin(t *testing.T) {
	for groups := 1; groups <= api.MaxGroups; groups++ {
		first, _ := shard.Begin(0, groups)
		want := told(first)
		again, _ := shard.Begin(0, groups)
		checkNoneShared(t, first, api.Command{}, again)
		wipe(first)
		if later, _ := shard.Begin(0, groups); told(again) != want || told(later) != want {
			t.Errorf("P2: writing into one shard changed another: %s, %s", told(again), told(later))
		}
	}
}
