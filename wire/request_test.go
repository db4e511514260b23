package wire_test

import (
	"testing"

	"handover/api"
)

var rightRequests = []part[api.Request]{
	{api.Request{Client: 1, Seq: 0x01020304, Kind: api.Get, Key: key1}, "01 01020304 01" + hex1},
	{api.Request{Client: 1, Seq: 2, Kind: api.Set, Key: key1, Value: key2}, "01 00000002 02" + hex1 + hex2},
	{api.Request{Client: 2, Seq: 2, Kind: api.Delete, Key: key1}, "02 00000002 03" + hex1},
	{api.Request{Client: 2, Seq: 2, Kind: api.Delegate, Key: key1, Hi: key2, To: 2}, "02 00000002 04" + hex1 + hex2 + "02"},

	{api.Request{Client: 0, Seq: 1, Kind: api.Get}, "00 00000001 01" + hex0},
	{api.Request{Client: 3, Seq: most32, Kind: api.Get, Key: most64}, "03 ffffffff 01" + hexFF},
	{api.Request{Seq: 1, Kind: api.Set}, "00 00000001 02" + hex0 + hex0},
	{api.Request{Seq: 1, Kind: api.Set, Key: most64, Value: most64}, "00 00000001 02" + hexFF + hexFF},
	{api.Request{Seq: 1, Kind: api.Delegate}, "00 00000001 04" + hex0 + hex0 + "00"},
	{api.Request{Seq: 1, Kind: api.Delegate, Key: key1, Hi: key1, To: 3}, "00 00000001 04" + hex1 + hex1 + "03"},
	{api.Request{Seq: 1, Kind: api.Delegate, Key: most64, Hi: most64}, "00 00000001 04" + hexFF + hexFF + "00"},
	{api.Request{Seq: 1, Kind: api.Delegate, Hi: most64}, "00 00000001 04" + hex0 + hexFF + "00"},
}

var wrongRequests = []part[api.Request]{
	{api.Request{}, "00 00000000 00" + hex0},
	{api.Request{Client: 4, Seq: 1, Kind: api.Get}, "04 00000001 01" + hex0},
	{api.Request{Client: 255, Seq: 1, Kind: api.Set}, "ff 00000001 02" + hex0 + hex0},
	{api.Request{Client: 4, Seq: 1, Kind: api.Delegate}, "04 00000001 04" + hex0 + hex0 + "00"},
	{api.Request{Seq: 0, Kind: api.Get}, "00 00000000 01" + hex0},
	{api.Request{Seq: 0, Kind: api.Set}, "00 00000000 02" + hex0 + hex0},
	{api.Request{Seq: 0, Kind: api.Delete}, "00 00000000 03" + hex0},
	{api.Request{Seq: 0, Kind: api.Delegate}, "00 00000000 04" + hex0 + hex0 + "00"},
	{api.Request{Seq: 1, Kind: 0}, "00 00000001 00" + hex0},
	{api.Request{Seq: 1, Kind: 5}, "00 00000001 05" + hex0},
	{api.Request{Seq: 1, Kind: 255}, "00 00000001 ff" + hex0},
	{api.Request{Seq: 1, Kind: api.Delegate, Key: key1, Hi: key1 - 1}, "00 00000001 04" + hex1 + "0102030405060707" + "00"},
	{api.Request{Seq: 1, Kind: api.Delegate, Key: most64}, "00 00000001 04" + hexFF + hex0 + "00"},
	{api.Request{Seq: 1, Kind: api.Delegate, To: 4}, "00 00000001 04" + hex0 + hex0 + "04"},
	{api.Request{Seq: 1, Kind: api.Delegate, To: 255}, "00 00000001 04" + hex0 + hex0 + "ff"},

	{is: api.Request{Seq: 1, Kind: api.Get, Value: 1}},
	{is: api.Request{Seq: 1, Kind: api.Get, Hi: 1}},
	{is: api.Request{Seq: 1, Kind: api.Get, To: 1}},
	{is: api.Request{Seq: 1, Kind: api.Set, Hi: 1}},
	{is: api.Request{Seq: 1, Kind: api.Set, To: 1}},
	{is: api.Request{Seq: 1, Kind: api.Delete, Value: 1}},
	{is: api.Request{Seq: 1, Kind: api.Delete, Hi: 1}},
	{is: api.Request{Seq: 1, Kind: api.Delete, To: 1}},
	{is: api.Request{Seq: 1, Kind: api.Delegate, Value: 1}},
}

func TestRequests(t *testing.T) {
	checkRight(t, requestCarriers(), rightRequests)
	checkWrong(t, requestCarriers(), wrongRequests)
}
