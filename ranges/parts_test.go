package ranges_test

import (
	"slices"
	"testing"

	"handover/api"
	"handover/ranges"
)

const most = 1<<64 - 1

// pieces makes a list from From, Group, From, Group and so on.
func pieces(v ...uint64) []api.Piece {
	var list []api.Piece
	for i := 0; i < len(v); i += 2 {
		list = append(list, api.Piece{From: v[i], Group: uint8(v[i+1])})
	}
	return list
}

// long is a map of n pieces, of the groups 0 and 1 by turns, ten keys each.
func long(n int) []api.Piece {
	var list []api.Piece
	for i := range n {
		list = append(list, api.Piece{From: uint64(10 * i), Group: uint8(i % 2)})
	}
	return list
}

func finds(t *testing.T, m []api.Piece, key uint64, want uint8) {
	t.Helper()
	if g, e := ranges.Find(m, key); g != want || e != api.OK {
		t.Errorf("P5: Find(%.200v, %d) = %d, %d, want %d, %d", m, key, g, e, want, api.OK)
	}
}

func gives(t *testing.T, m []api.Piece, lo, hi uint64, group uint8, want []api.Piece) {
	t.Helper()
	if got, e := ranges.Give(m, lo, hi, group); !slices.Equal(got, want) || e != api.OK {
		t.Errorf("P5: Give(%.200v, %d, %d, %d)\n got %.200v, %d\nwant %.200v, %d", m, lo, hi, group, got, e, want, api.OK)
	}
}

func givesNot(t *testing.T, m []api.Piece, lo, hi uint64, group uint8, want api.Errno) {
	t.Helper()
	if got, e := ranges.Give(m, lo, hi, group); len(got) != 0 || e != want {
		t.Errorf("P5, P1: Give(%.200v, %d, %d, %d) = %.200v, %d, want nothing, %d", m, lo, hi, group, got, e, want)
	}
}
