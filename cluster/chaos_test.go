package cluster_test

import (
	"flag"
	"math/rand/v2"
	"slices"
	"strconv"
	"testing"

	"handover/api"
)

var storms = flag.Int("storms", 120, "how many storms TestStorm lets loose")

// A storm is a world in which anything happens, by a fixed seed.
type storm struct {
	*world
	r       *rand.Rand
	wild    int   // of 20 packets so many are lost, late or doubled
	pending []int // packets that were not delivered yet
	seen    int
	leaders []int            // who ticks and is asked, mostly
	cut     map[api.Addr]int // whose packets are lost for now
	asks    int
}

func newStorm(t *testing.T, seed uint64, groups, faults int) *storm {
	s := &storm{world: newWorld(t, groups, faults), r: rand.New(rand.NewPCG(seed, 15)), cut: map[api.Addr]int{}}
	s.leaders = make([]int, groups)
	s.wild = s.r.IntN(13)
	return s
}

func (s *storm) someone() api.Addr { return at(s.r.IntN(s.groups), s.r.IntN(s.size)) }

func (s *storm) leader() api.Addr {
	g := s.r.IntN(s.groups)
	return at(g, s.leaders[g])
}

func (s *storm) request() api.Request {
	q := api.Request{Client: uint8(s.r.IntN(4)), Seq: 1 + uint32(s.asks/4) + s.r.Uint32N(5), Kind: uint8(1 + s.r.IntN(4)), Key: s.r.Uint64N(9)}
	if s.r.IntN(9) == 0 {
		q.Key = most
	}
	switch q.Kind {
	case api.Set:
		q.Value = s.r.Uint64N(99)
	case api.Delegate:
		q.Hi, q.To = q.Key+s.r.Uint64N(4), uint8(s.r.IntN(s.groups))
		if q.Hi < q.Key || s.r.IntN(5) == 0 {
			q.Hi = most
		}
		if s.r.IntN(9) == 0 {
			q.To = uint8(s.r.IntN(4))
		}
	}
	return q
}

// asked is some requests to one replica, which come to it at once, mostly.
func (s *storm) asked() {
	s.t.Helper()
	for range 1 + s.r.IntN(4) {
		a, q := s.leader(), s.request()
		switch {
		case s.asks >= 70:
			return
		case s.r.IntN(8) == 0:
			a = s.someone()
		case s.r.IntN(3) > 0:
			// One who knows where the key is.
			if g, here := s.w.has(q.Key); here {
				a = at(g, s.leaders[g])
			}
		}
		s.asks++
		number := s.ask(a, q)
		if s.r.IntN(4) > 0 {
			s.deliver(number)
		}
	}
}

// deliverOne delivers in turn, or not.
func (s *storm) deliverOne() {
	s.t.Helper()
	for ; s.seen < s.count(); s.seen++ {
		s.pending = append(s.pending, s.seen)
	}
	if len(s.pending) == 0 {
		return
	}
	if p := s.w.packets[s.pending[0]]; s.cut[p.From]+s.cut[p.To] > 0 {
		s.pending = s.pending[1:]
		return
	}
	i := 0
	if s.r.IntN(20) < s.wild {
		switch s.r.IntN(4) {
		case 0: // lost
			s.pending = s.pending[1:]
			return
		case 1: // doubled
			s.deliver(s.pending[0])
		case 2: // one that was delivered, or lost, long ago
			s.deliver(s.r.IntN(s.count()))
		case 3: // overtaken
			i = s.r.IntN(len(s.pending))
		}
	}
	number := s.pending[i]
	s.pending = slices.Delete(s.pending, i, i+1)
	s.deliver(number)
}

func (s *storm) act() {
	s.t.Helper()
	switch n := s.r.IntN(100); {
	case n < 12:
		s.asked()
	case n < 28:
		s.tick(s.leader())
	case n < 31:
		s.tick(s.someone())
	case n < 33:
		s.crash(s.someone())
	case n < 36:
		s.leaders[s.r.IntN(s.groups)] = s.r.IntN(s.size)
	case n < 37:
		s.pending = nil
		s.seen = s.count()
	case n < 40:
		s.cut[s.someone()] = 1
	case n < 44:
		clear(s.cut)
	default:
		for range 1 + s.r.IntN(6*s.size) {
			s.deliverOne()
		}
	}
}

// TestStorm: whatever happens, all promises hold on the way and in the end.
func TestStorm(t *testing.T) {
	ended := 0
	commands, replies := map[uint8]int{}, map[uint8]int{}
	for seed := range uint64(*storms) {
		t.Run(strconv.Itoa(int(seed)), func(t *testing.T) {
			s := newStorm(t, seed, 1+int(seed%4), int(seed/4%3))
			for range 220 {
				s.act()
			}
			s.w.once()
			if s.w.inTheEnd() {
				ended++
			}
			for _, c := range slices.Concat(s.w.best...) {
				commands[c.Kind]++
			}
			for _, p := range s.replies(0) {
				replies[p.Kind]++
			}
		})
	}
	t.Logf("%d ended with room; commands %v, replies %v", ended, commands, replies)
	if ended < *storms*3/4 || commands[api.Nop] < *storms/20 || commands[api.Receive] < *storms || replies[api.Stale] < *storms {
		t.Errorf("the storms ask too little")
	}
}
