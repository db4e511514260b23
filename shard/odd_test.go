package shard_test

import (
	"math/rand/v2"
	"testing"

	"handover/api"
)

// oddShards have been given by neither Begin nor Apply.
func oddShards(t *testing.T) map[string]api.Shard {
	all := map[string]api.Shard{"nothing": {}}
	add := func(name string, spoil func(*api.Shard)) {
		s := busy(t)
		spoil(&s)
		all[name] = s
	}
	add("no map", func(s *api.Shard) { s.Map = nil })
	add("a map that begins at 1", func(s *api.Shard) { s.Map[0].From = 1 })
	add("a map that falls", func(s *api.Shard) { s.Map = pieces(0, 1, 50, 0, 40, 1) })
	add("a map with a group 200", func(s *api.Shard) { s.Map = pieces(0, 1, 50, 200) })
	add("a map of 1000 and one more", func(s *api.Shard) {
		for len(s.Map) <= api.MaxMap {
			n := len(s.Map)
			s.Map = append(s.Map, api.Piece{From: s.Map[n-1].From + 1, Group: (s.Map[n-1].Group + 1) % 3})
		}
	})
	add("a map of 1000", func(s *api.Shard) {
		for len(s.Map) < api.MaxMap {
			n := len(s.Map)
			s.Map = append(s.Map, api.Piece{From: s.Map[n-1].From + 1, Group: (s.Map[n-1].Group + 1) % 3})
		}
	})
	add("no lanes", func(s *api.Shard) { s.Out = nil })
	add("a lane too few", func(s *api.Shard) { s.Out = s.Out[:2] })
	add("a lane too many", func(s *api.Shard) { s.Out = append(s.Out, api.Lane{}) })
	add("no Seqs", func(s *api.Shard) { s.In = nil })
	add("a Seq too few", func(s *api.Shard) { s.In = s.In[:2] })
	add("a Seq too many", func(s *api.Shard) { s.In = append(s.In, 0) })
	add("no groups", func(s *api.Shard) { s.Groups = 0 })
	add("more groups", func(s *api.Shard) { s.Groups = 4 })
	add("255 groups", func(s *api.Shard) { s.Groups = 255 })
	add("a group that is none", func(s *api.Shard) { s.Group = 3 })
	add("the group 255", func(s *api.Shard) { s.Group = 255 })
	add("255 of all", func(s *api.Shard) { s.Groups, s.Out, s.In = 255, make([]api.Lane, 255), make([]uint32, 255) })
	add("the group 254 of 255", func(s *api.Shard) {
		s.Group, s.Groups, s.Out, s.In = 254, 255, make([]api.Lane, 255), make([]uint32, 255)
	})
	add("rows that fall", func(s *api.Shard) { s.Table = rows(95, 1, 40, 2, 30, 3, 10, 4, 20, 5, 10, 6) })
	add("a row many times", func(s *api.Shard) { s.Table = rows(10, 1, 10, 2, 10, 3, 10, 4) })
	add("dups that fall", func(s *api.Shard) {
		s.Dups = []api.Reply{reply(3, 9, 95, ok), reply(0, 9, 10, ok), reply(1, 9, 40, stale), reply(255, 0, 10, ok), reply(0, 9, 10, full)}
	})
	add("Seqs at their end", func(s *api.Shard) {
		for i := range s.Out {
			s.Out[i].Next, s.In[i] = most32, most32
		}
	})
	add("a lane with ranges that are not right", func(s *api.Shard) {
		s.Out[0].Queue = []api.Range{{}, {Src: 200, Lo: 9, Hi: 1, Rows: rows(5, 5, 4, 4)}, {Seq: most32}, {}, {}, {}}
	})
	return all
}

func TestOddShards(t *testing.T) {
	for name, s := range oddShards(t) {
		t.Run(name, func(t *testing.T) {
			for _, c := range everyWay() {
				for _, d := range []api.Command{settle(0, 1), {Kind: api.Client, Request: get(1, 50, 10)}, {Kind: api.Client, Request: delegate(1, 50, 10, 10, 0)}} {
					next, _ := apply(t, s, c)
					apply(t, next, d)
				}
			}
		})
	}
}

// scramble swaps, drops and doubles what is in a list.
func scramble[T any](r *rand.Rand, list []T) []T {
	out := append([]T(nil), list...)
	for range r.IntN(3) {
		switch n := len(out); {
		case n == 0 || r.IntN(3) == 0:
			var zero T
			out = append(out, zero)
		case r.IntN(2) == 0:
			out = append(out, out[r.IntN(n)])
		default:
			i := r.IntN(n)
			out[i] = out[n-1]
			out = out[:n-1]
		}
	}
	return out
}

func TestScrambledShards(t *testing.T) {
	r := rand.New(rand.NewPCG(1, 2))
	for range 150 {
		s := busy(t)
		s.Table, s.Dups, s.Map = scramble(r, s.Table), scramble(r, s.Dups), scramble(r, s.Map)
		s.In, s.Out = scramble(r, s.In), scramble(r, s.Out)
		for i := range s.Out {
			s.Out[i].Queue = scramble(r, s.Out[i].Queue)
		}
		s.Group, s.Groups = uint8(r.IntN(5)), uint8(r.IntN(6))
		for _, c := range everyWay() {
			apply(t, s, c)
		}
	}
}
