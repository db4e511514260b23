package wire_test

import (
	"strings"
	"testing"

	"handover/api"
	"handover/wire"
)

// allRight is a right message of each kind that there is, as bytes.
func allRight(t *testing.T) []string {
	t.Helper()
	var all []string
	for _, p := range rightMessages {
		all = append(all, raw(t, p.digits))
	}
	all = append(all, carried(t, requestCarriers(), rightRequests)...)
	all = append(all, carried(t, []carrier[api.Reply]{tellCarrier}, passingReplies)...)
	all = append(all, carried(t, dupCarriers(), rightDups)...)
	all = append(all, carried(t, rangeCarriers(), rightRanges)...)
	return append(all, carried(t, commandCarriers, rightCommands)...)
}

func carried[T any](t *testing.T, carriers []carrier[T], parts []part[T]) []string {
	t.Helper()
	var all []string
	for _, c := range carriers {
		for _, p := range parts {
			all = append(all, raw(t, c.ahead+p.digits+c.behind))
		}
	}
	return all
}

func TestCutShort(t *testing.T) {
	for _, s := range append(allRight(t), raw(t, "09"+manyRows(255).digits), raw(t, "09"+manyDups(255).digits)) {
		for i := range len(s) {
			noMessage(t, s[:i])
		}
	}
}

func TestTooMany(t *testing.T) {
	for _, s := range allRight(t) {
		for _, more := range []string{"\x00", "\x01", "\xff", s, strings.Repeat("\x00", 1000)} {
			noMessage(t, s+more)
		}
	}
}

// accepted tells whether bytes are taken, and sees to it that they are taken
// for a message that is written so, or else answered with nothing.
func accepted(t *testing.T, s string) bool {
	t.Helper()
	m, e := wire.Parse(s)
	if e == api.ErrBytes && empty(m) {
		return false
	}
	again, wrong := wire.Marshal(m)
	if e != api.OK || again != s || wrong != api.OK {
		t.Errorf("P4, P1: Parse(%x) = %+v, %d, whose bytes are %x, %d", s, m, e, again, wrong)
	}
	return true
}

func TestOneByteChanged(t *testing.T) {
	for _, s := range allRight(t) {
		b := []byte(s)
		for i, old := range b {
			for other := range 256 {
				b[i] = byte(other)
				accepted(t, string(b))
			}
			b[i] = old
		}
	}
}

// The bytes at one place that leave the message right: all of those and no more.
func TestBytesAtPlace(t *testing.T) {
	ask := "01 01 00000002 01" + hex3rd
	tell := "02 01 00000002" + hex3rd + "03 01"
	for _, c := range []struct {
		digits string
		place  int
		want   string
	}{
		{ask, 1, "\x00\x01\x02\x03"},
		{ask, 5, allBut("\x00")},
		{ask, 6, "\x01\x03"},
		{"01 01 00000002 04" + hex3rd + hex4th + "00", 14, bytesTo(4)},
		{"01 01 00000002 04" + hex3rd + hex4th + "00", 22, allBut("\x00\x01\x02")},
		{"01 01 00000002 04" + hex3rd + hex4th + "00", 23, "\x00\x01\x02\x03"},
		{tell, 1, "\x00\x01\x02\x03"},
		{tell, 5, allBut("\x00")},
		{tell, 14, "\x03"},
		{tell, 15, "\x00\x01\x02\x03"},
		{"02 01 00000002" + hex3rd + "02", 14, "\x02\x04\x05"},
		{"02 01 00000002" + hex3rd + "01 00", 15, "\x00"},
		{"02 01 00000002" + hex3rd + "01 01" + hex3rd, 15, "\x01"},
		{"03 00000005 01", 0, "\x03\x05\x0a"},
		{"03 00000005 01", 5, allBut("")},
		{"04 00000005 01 00", 6, "\x00"},
		{"08 00000000 00", 5, "\x00"},
		{"0a 02 00000007", 1, "\x00\x01\x02\x03"},
		{"0a 02 00000007", 5, allBut("")},
		{"09" + to9 + "00 00", 1, "\x00\x01\x02\x03"},
		{"09" + to9 + "00 00", 2, "\x00\x01\x02\x03"},
		{"09" + to9 + "00 00", 6, allBut("\x00")},
		{"09" + to9 + "00 00", 14, bytesTo(9)},
		{"09" + to9 + "00 00", 22, allBut("\x00\x01\x02")},
		{"09" + to9 + "02" + hex4th + hex0 + hex9th + hex0 + "00", 31, bytesTo(8)[3:]},
		{"09" + to9 + "02" + hex4th + hex0 + hex9th + hex0 + "00", 47, "\x05\x06\x07\x08\x09"},
		{"09" + to9 + "00 02 01 00000001" + hex4th + "02 01 00000001" + hex9th + "02", 37, bytesTo(8)[3:]},
		{"09" + to9 + "00 02 01 00000001" + hex4th + "02 01 00000001" + hex9th + "02", 38, "\x02\x05"},
		{"09" + to9 + "00 02 01 00000001" + hex4th + "02 01 00000001" + hex9th + "02", 39, "\x00\x01\x02\x03"},
		{"09" + to9 + "00 02 01 00000001" + hex4th + "02 01 00000001" + hex4th + "02", 39, "\x02\x03"},
	} {
		b := []byte(raw(t, c.digits))
		got := ""
		for other := range 256 {
			b[c.place] = byte(other)
			if accepted(t, string(b)) {
				got += string(b[c.place : c.place+1])
			}
		}
		if got != c.want {
			t.Errorf("P4: %s: at %d the bytes %x do, want %x", c.digits, c.place, got, c.want)
		}
	}
}

// bytesTo is the bytes from 0 to this one.
func bytesTo(last int) string {
	var b []byte
	for i := range last + 1 {
		b = append(b, byte(i))
	}
	return string(b)
}

// allBut is all bytes but these.
func allBut(without string) string {
	var b []byte
	for i := range 256 {
		if strings.IndexByte(without, byte(i)) < 0 {
			b = append(b, byte(i))
		}
	}
	return string(b)
}

func TestShortStrings(t *testing.T) {
	noMessage(t, "")
	for a := range 256 {
		noMessage(t, string([]byte{byte(a)}))
		for b := range 256 {
			noMessage(t, string([]byte{byte(a), byte(b)}))
		}
	}
}

func TestLongStrings(t *testing.T) {
	for b := range 256 {
		noMessage(t, strings.Repeat(string([]byte{byte(b)}), 100000))
	}
	noMessage(t, strings.Repeat("\x04", 10000000))
	noMessage(t, strings.Repeat("ä€\x00\xff", 10000))
}

// Strings without a plan, the same ones each time.
func TestJunk(t *testing.T) {
	state := uint64(1)
	next := func() uint64 {
		state = state*6364136223846793005 + 1442695040888963407
		return state >> 33
	}
	for range 50000 {
		b := make([]byte, next()%200)
		for i := range b {
			b[i] = byte(next())
			if next()%2 == 0 {
				b[i] %= 4
			}
		}
		accepted(t, string(b))
	}
}

func FuzzParse(f *testing.F) {
	f.Add("\x0a\x02\x00\x00\x00\x07")
	f.Add("\x03\x00\x00\x00\x05\x01")
	f.Fuzz(func(t *testing.T, s string) { accepted(t, s) })
}
