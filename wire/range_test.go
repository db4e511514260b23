package wire_test

import (
	"fmt"
	"strings"
	"testing"

	"handover/api"
)

// keys of the ranges below: from 3 to 9.
const (
	hex2nd = "0000000000000002"
	hex3rd = "0000000000000003"
	hex4th = "0000000000000004"
	hex9th = "0000000000000009"
	hex10  = "000000000000000a"

	to9 = "01 02 00000007" + hex3rd + hex9th
)

func rowsTo9(rows ...api.Row) api.Range {
	return api.Range{Src: 1, Dst: 2, Seq: 7, Lo: 3, Hi: 9, Rows: rows}
}

func dupsTo9(dups ...api.Reply) api.Range {
	return api.Range{Src: 1, Dst: 2, Seq: 7, Lo: 3, Hi: 9, Dups: dups}
}

func okReply(key uint64, client uint8) api.Reply {
	return api.Reply{Client: client, Seq: 1, Key: key, Kind: api.Ok}
}

var rightRanges = []part[api.Range]{
	{api.Range{Src: 1, Dst: 2, Seq: 0x01020304, Lo: key1, Hi: key2}, "01 02 01020304" + hex1 + hex2 + "00 00"},
	{api.Range{Src: 0, Dst: 3, Seq: 1}, "00 03 00000001" + hex0 + hex0 + "00 00"},
	{api.Range{Src: 3, Dst: 0, Seq: most32, Hi: most64}, "03 00 ffffffff" + hex0 + hexFF + "00 00"},
	{api.Range{Src: 2, Dst: 2, Seq: 1, Lo: most64, Hi: most64}, "02 02 00000001" + hexFF + hexFF + "00 00"},
	{api.Range{Seq: 1, Lo: key1, Hi: key1, Rows: []api.Row{{Key: key1, Value: key2}}}, "00 00 00000001" + hex1 + hex1 + "01" + hex1 + hex2 + "00"},
	{api.Range{Seq: 1, Hi: most64, Rows: []api.Row{{}, {Key: most64, Value: most64}}}, "00 00 00000001" + hex0 + hexFF + "02" + hex0 + hex0 + hexFF + hexFF + "00"},
	{rowsTo9(api.Row{Key: 3}, api.Row{Key: 4, Value: key2}, api.Row{Key: 9, Value: 2}), to9 + "03" + hex3rd + hex0 + hex4th + hex2 + hex9th + hex2nd + "00"},
	{dupsTo9(okReply(3, 0), okReply(3, 3), okReply(4, 2), okReply(9, 1)), to9 + "00 04 00 00000001" + hex3rd + "02 03 00000001" + hex3rd + "02 02 00000001" + hex4th + "02 01 00000001" + hex9th + "02"},
	{api.Range{Src: 1, Dst: 2, Seq: 7, Lo: 3, Hi: 9, Rows: []api.Row{{Key: 4, Value: 9}}, Dups: []api.Reply{{Client: 1, Seq: 2, Key: 4, Kind: api.Value, Found: true, Value: 9}, {Client: 2, Seq: 4, Key: 4, Kind: api.Value}, {Seq: 1, Key: 9, Kind: api.Full}}},
		to9 + "01" + hex4th + hex9th + "03 01 00000002" + hex4th + "01 01" + hex9th + "02 00000004" + hex4th + "01 00 00 00000001" + hex9th + "05"},
}

var wrongRanges = []part[api.Range]{
	{api.Range{}, "00 00 00000000" + hex0 + hex0 + "00 00"},
	{api.Range{Src: 4, Seq: 1}, "04 00 00000001" + hex0 + hex0 + "00 00"},
	{api.Range{Src: 255, Seq: 1}, "ff 00 00000001" + hex0 + hex0 + "00 00"},
	{api.Range{Dst: 4, Seq: 1}, "00 04 00000001" + hex0 + hex0 + "00 00"},
	{api.Range{Dst: 255, Seq: 1}, "00 ff 00000001" + hex0 + hex0 + "00 00"},
	{api.Range{Src: 1, Dst: 2, Lo: 3, Hi: 9}, "01 02 00000000" + hex3rd + hex9th + "00 00"},
	{api.Range{Seq: 1, Lo: 4, Hi: 3}, "00 00 00000001" + hex4th + hex3rd + "00 00"},
	{api.Range{Seq: 1, Lo: most64}, "00 00 00000001" + hexFF + hex0 + "00 00"},

	{rowsTo9(api.Row{Key: 2}), to9 + "01" + hex2nd + hex0 + "00"},
	{rowsTo9(api.Row{Key: 10}), to9 + "01" + hex10 + hex0 + "00"},
	{rowsTo9(api.Row{Key: 2}, api.Row{Key: 3}), to9 + "02" + hex2nd + hex0 + hex3rd + hex0 + "00"},
	{rowsTo9(api.Row{Key: 9}, api.Row{Key: 10}), to9 + "02" + hex9th + hex0 + hex10 + hex0 + "00"},
	{rowsTo9(api.Row{Key: 4}, api.Row{Key: 4, Value: 2}), to9 + "02" + hex4th + hex0 + hex4th + hex2nd + "00"},
	{rowsTo9(api.Row{Key: 4}, api.Row{Key: 3}), to9 + "02" + hex4th + hex0 + hex3rd + hex0 + "00"},
	{rowsTo9(api.Row{Key: 3}, api.Row{Key: 9}, api.Row{Key: 4}), to9 + "03" + hex3rd + hex0 + hex9th + hex0 + hex4th + hex0 + "00"},

	{dupsTo9(okReply(2, 0)), to9 + "00 01 00 00000001" + hex2nd + "02"},
	{dupsTo9(okReply(10, 0)), to9 + "00 01 00 00000001" + hex10 + "02"},
	{dupsTo9(okReply(2, 0), okReply(3, 0)), to9 + "00 02 00 00000001" + hex2nd + "02 00 00000001" + hex3rd + "02"},
	{dupsTo9(okReply(9, 0), okReply(10, 0)), to9 + "00 02 00 00000001" + hex9th + "02 00 00000001" + hex10 + "02"},
	{dupsTo9(okReply(4, 1), okReply(4, 1)), to9 + "00 02 01 00000001" + hex4th + "02 01 00000001" + hex4th + "02"},
	{dupsTo9(okReply(4, 1), okReply(4, 0)), to9 + "00 02 01 00000001" + hex4th + "02 00 00000001" + hex4th + "02"},
	{dupsTo9(okReply(4, 0), okReply(3, 1)), to9 + "00 02 00 00000001" + hex4th + "02 01 00000001" + hex3rd + "02"},
	{dupsTo9(okReply(3, 0), okReply(4, 2), okReply(4, 1)), to9 + "00 03 00 00000001" + hex3rd + "02 02 00000001" + hex4th + "02 01 00000001" + hex4th + "02"},
}

func TestRanges(t *testing.T) {
	checkRight(t, rangeCarriers(), rightRanges)
	checkWrong(t, rangeCarriers(), wrongRanges)
}

// manyRows has as many rows, with the keys from 0 on.
func manyRows(n int) part[api.Range] {
	var b strings.Builder
	r := api.Range{Seq: 1, Hi: most64}
	fmt.Fprintf(&b, "00 00 00000001"+hex0+hexFF+"%02x", uint8(n))
	for i := range n {
		r.Rows = append(r.Rows, api.Row{Key: uint64(i), Value: uint64(i) << 32})
		fmt.Fprintf(&b, "%016x%016x", i, uint64(i)<<32)
	}
	return part[api.Range]{r, b.String() + "00"}
}

// manyDups has as many dups, of all clients for one key after the other.
func manyDups(n int) part[api.Range] {
	var b strings.Builder
	r := api.Range{Seq: 1, Hi: most64}
	fmt.Fprintf(&b, "00 00 00000001"+hex0+hexFF+"00%02x", uint8(n))
	for i := range n {
		r.Dups = append(r.Dups, okReply(uint64(i/4), uint8(i%4)))
		fmt.Fprintf(&b, "%02x00000001%016x02", i%4, i/4)
	}
	return part[api.Range]{r, b.String()}
}

func TestLongRanges(t *testing.T) {
	checkRight(t, rangeCarriers(), []part[api.Range]{manyRows(254), manyRows(255), manyDups(254), manyDups(255)})
	checkWrong(t, rangeCarriers(), []part[api.Range]{manyRows(256), manyDups(256)})
	checkWrong(t, rangeCarriers(), []part[api.Range]{{is: manyRows(100000).is}, {is: manyDups(1000).is}})
	both := manyRows(255).is
	both.Dups = manyDups(255).is.Dups
	digits := strings.TrimSuffix(manyRows(255).digits, "00") + strings.TrimPrefix(manyDups(255).digits, "00 00 00000001"+hex0+hexFF+"00")
	checkRight(t, rangeCarriers(), []part[api.Range]{{both, digits}})
}
