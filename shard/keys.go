package shard

import (
	"cmp"
	"slices"

	"handover/api"
	"handover/ranges"
)

func rowKey(r api.Row) uint64   { return r.Key }
func dupKey(p api.Reply) uint64 { return p.Key }

// split makes three new lists: what lies below lo, from lo to hi, and above hi.
func split[T any](list []T, key func(T) uint64, lo, hi uint64) (below, within, above []T) {
	for _, x := range list {
		switch k := key(x); {
		case k < lo:
			below = append(below, x)
		case k > hi:
			above = append(above, x)
		default:
			within = append(within, x)
		}
	}
	return below, within, above
}

// stranger finds the group of the least key from lo to hi that does not belong
// to this one, if there is such a key.
func stranger(s *api.Shard, lo, hi uint64) (uint8, bool) {
	if g, _ := ranges.Find(s.Map, lo); g != s.Group {
		return g, true
	}
	for _, p := range s.Map {
		// Behind a piece of this group stands one of another.
		if p.From > lo && p.From <= hi {
			return p.Group, true
		}
	}
	return 0, false
}

// row finds where a key stands in the Table, or where it would.
func row(s *api.Shard, key uint64) (int, bool) {
	return slices.BinarySearchFunc(s.Table, key, func(r api.Row, key uint64) int {
		return cmp.Compare(r.Key, key)
	})
}

// dup finds where the reply to a Key and Client stands, or where it would.
func dup(s *api.Shard, p api.Reply) (int, bool) {
	return slices.BinarySearchFunc(s.Dups, p, func(a, b api.Reply) int {
		return cmp.Or(cmp.Compare(a.Key, b.Key), cmp.Compare(a.Client, b.Client))
	})
}

func remember(s *api.Shard, p api.Reply) {
	i, known := dup(s, p)
	if known {
		s.Dups[i] = p
		return
	}
	s.Dups = slices.Insert(s.Dups, i, p)
}
