package cluster_test

import (
	"math/rand/v2"
	"reflect"
	"testing"

	"handover/api"
	"handover/cluster"
)

// lists finds all lists in a value, and those within them.
func lists(v reflect.Value) []reflect.Value {
	var all []reflect.Value
	switch v.Kind() {
	case reflect.Struct:
		for i := range v.NumField() {
			all = append(all, lists(v.Field(i))...)
		}
	case reflect.Slice:
		all = append(all, v)
		for i := range v.Len() {
			all = append(all, lists(v.Index(i))...)
		}
	}
	return all
}

// overlap tells whether two lists share memory, spare room and all.
func overlap(a, b reflect.Value) bool {
	from := func(v reflect.Value) uintptr { return v.Pointer() }
	to := func(v reflect.Value) uintptr { return v.Pointer() + uintptr(v.Cap())*v.Type().Elem().Size() }
	return a.Cap() > 0 && b.Cap() > 0 && from(a) < to(b) && from(b) < to(a)
}

// odd is a value with a 77 in each of its numbers.
func odd(t reflect.Type) reflect.Value {
	v := reflect.New(t).Elem()
	switch {
	case t.Kind() == reflect.Struct:
		for i := range t.NumField() {
			v.Field(i).Set(odd(t.Field(i).Type))
		}
	case v.CanUint():
		v.SetUint(77)
	}
	return v
}

// wipe writes into all that a value reaches, spare room too.
func wipe(v any) {
	found := lists(reflect.ValueOf(v))
	for i := len(found) - 1; i >= 0; i-- {
		room := found[i].Slice(0, found[i].Cap())
		for j := range room.Len() {
			room.Index(j).Set(odd(room.Type().Elem()))
		}
	}
}

// busy is a world of two groups whose lists are not empty.
func busy(t *testing.T) *world {
	x := newWorld(t, 2, 1)
	x.rounds(2)
	x.says2(at(0, 0), set(0, 1, 5, 7))
	x.says2(at(0, 0), set(0, 1, 6, 8))
	x.says2(at(0, 0), set(0, 1, 3, 8))
	x.says2(at(0, 0), delegate(1, 1, 5, 9, 1))
	x.rounds(2)
	x.says2(at(0, 0), delegate(1, 1, 3, 4, 1))
	x.put(at(0, 0), delegate(1, 1, 0, 1, 1)) // proposed
	return x
}

func TestFreshMemory(t *testing.T) {
	x := busy(t)
	var out []any
	for range 2 {
		out = append(out, x.c.Packets(0), x.c.Packets(3), x.c.Packets(x.count()))
		for g := range 2 {
			for i := range 3 {
				out = append(out, x.c.Log(at(g, i)), x.c.State(at(g, i)))
			}
		}
	}
	var all []reflect.Value
	for _, v := range out {
		all = append(all, lists(reflect.ValueOf(v))...)
	}
	for i, a := range all {
		for _, b := range all[:i] {
			if overlap(a, b) {
				t.Fatalf("P2: two lists share memory: %+v and %+v", a, b)
			}
		}
	}
	before := seen(x.c, 0, 2, 3)
	for _, v := range out {
		wipe(v)
	}
	if seen(x.c, 0, 2, 3) != before {
		t.Fatalf("P2: writing into what came out changed the cluster")
	}
	// Nor does it change what comes.
	twin := busy(t)
	for _, y := range []*world{x, twin} {
		y.rounds(4)
		y.crash(at(0, 0))
		y.rounds(3)
	}
	if seen(x.c, 0, 2, 3) != seen(twin.c, 0, 2, 3) {
		t.Errorf("P2: writing into what came out changed what came later")
	}
}

// No later call changes what came out.
func TestKeptMemory(t *testing.T) {
	x := busy(t)
	packets, log, state := x.c.Packets(0), x.c.Log(at(0, 0)), x.c.State(at(0, 0))
	before := told(packets) + told(log) + told(state)
	x.rounds(4)
	x.crash(at(0, 0))
	x.w.inTheEnd()
	if told(packets)+told(log)+told(state) != before {
		t.Errorf("P2: a later call changed what came out")
	}
}

// meddle calls anything with anything.
func meddle(t *testing.T, r *rand.Rand, c *cluster.Cluster, all []string) {
	t.Helper()
	a := at(r.IntN(3), r.IntN(4))
	if r.IntN(9) == 0 {
		a = at(r.IntN(256), r.IntN(256))
	}
	switch r.IntN(12) {
	case 0:
		c.Send(a, all[r.IntN(len(all))])
	case 1, 2:
		c.Send(a, askOf(t, set(uint8(r.IntN(4)), 1+r.Uint32N(9), r.Uint64N(9), r.Uint64N(9))))
	case 3:
		lo := r.Uint64N(9)
		c.Send(a, askOf(t, delegate(uint8(r.IntN(4)), 1+r.Uint32N(9), lo, lo+r.Uint64N(3), uint8(r.IntN(3)))))
	case 4, 5:
		c.Tick(a)
	case 6:
		if r.IntN(5) == 0 {
			c.Crash(a)
		}
	default:
		n := len(c.Packets(0))
		for range 12 {
			c.Deliver(max(n-20, 0) + r.IntN(22))
		}
		c.Deliver(int(r.Uint64()))
		c.Deliver(r.IntN(n+3) - 1)
	}
}

// TestTwins: two clusters to which the same is done are the same, whatever is
// done to a third one between.
func TestTwins(t *testing.T) {
	all := junk(t)
	for seed := range uint64(20) {
		groups, faults := 1+int(seed%3), int(seed/3%3)
		c, twin, third := opened(t, groups, faults), opened(t, groups, faults), opened(t, 3, 1)
		r, same, other := rand.New(rand.NewPCG(seed, 1)), rand.New(rand.NewPCG(seed, 1)), rand.New(rand.NewPCG(seed, 2))
		for range 300 {
			meddle(t, r, c, all)
			meddle(t, other, third, all)
			meddle(t, same, twin, all)
			if from := len(c.Packets(0)) - 9; told(c.Packets(from)) != told(twin.Packets(from)) {
				t.Fatalf("P2: seed %d: the packets differ", seed)
			}
		}
		if seen(c, 0, groups, 2*faults+1) != seen(twin, 0, groups, 2*faults+1) {
			t.Errorf("P2: seed %d: the replicas differ", seed)
		}
	}
}

// Looking changes nothing.
func TestLooking(t *testing.T) {
	c, twin := opened(t, 2, 1), opened(t, 2, 1)
	for range 40 {
		for _, d := range []*cluster.Cluster{c, twin} {
			d.Tick(at(0, 0))
			d.Tick(at(1, 1))
			d.Send(at(0, 0), askOf(t, set(0, 1, 5, 7)))
			d.Deliver(len(d.Packets(0)) / 2)
			d.Deliver(len(d.Packets(0)) - 1)
		}
		for g := range 4 {
			for i := range 4 {
				c.Log(at(g, i))
				c.State(at(g, i))
			}
		}
		c.Send(api.Addr{Group: 9}, "")
		c.Deliver(-1)
		c.Tick(at(9, 9))
		c.Crash(at(9, 9))
	}
	if seen(c, 0, 2, 3) != seen(twin, 0, 2, 3) {
		t.Errorf("P1, P2: looking, or an error, has changed a cluster")
	}
}
