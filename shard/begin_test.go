package shard_test

import (
	"math"
	"testing"

	"handover/api"
	"handover/shard"
)

func TestBegin(t *testing.T) {
	for groups := 1; groups <= 4; groups++ {
		for group := range groups {
			got, e := shard.Begin(group, groups)
			want := api.Shard{Group: uint8(group), Groups: uint8(groups), Map: pieces(0, 0)}
			for range groups {
				want.Out = append(want.Out, api.Lane{Next: 1})
				want.In = append(want.In, 0)
			}
			if e != api.OK || told(got) != told(want) {
				t.Errorf("P6: Begin(%d, %d)\n got %s, %d\nwant %s, %d", group, groups, told(got), e, told(want), api.OK)
			}
		}
	}
}

func TestBeginNot(t *testing.T) {
	for _, c := range [][2]int{
		{0, 0}, {0, -1}, {0, 5}, {4, 5}, {1, 5}, {-1, 0}, {0, 256}, {0, 257}, {0, 260},
		{-1, 1}, {1, 1}, {-1, 4}, {4, 4}, {5, 4}, {2, 2}, {3, 2}, {256, 4}, {-256, 4}, {257, 2},
		{math.MinInt, 4}, {math.MaxInt, 4}, {0, math.MinInt}, {0, math.MaxInt}, {math.MaxInt - 1, math.MaxInt},
		{math.MinInt, math.MinInt}, {0, 1<<32 + 1}, {1 << 32, 2},
	} {
		if s, e := shard.Begin(c[0], c[1]); e != api.ErrGroups || told(s) != told(api.Shard{}) {
			t.Errorf("P6, P1: Begin(%d, %d) = %s, %d, want nothing, %d", c[0], c[1], told(s), e, api.ErrGroups)
		}
	}
}
