package wire_test

import (
	"testing"

	"handover/api"
)

var rightDups = []part[api.Reply]{
	{api.Reply{Client: 1, Seq: 0x01020304, Key: key1, Kind: api.Value}, "01 01020304" + hex1 + "01 00"},
	{api.Reply{Client: 1, Seq: 2, Key: key1, Kind: api.Value, Found: true, Value: key2}, "01 00000002" + hex1 + "01 01" + hex2},
	{api.Reply{Client: 2, Seq: 2, Key: key1, Kind: api.Ok}, "02 00000002" + hex1 + "02"},
	{api.Reply{Client: 2, Seq: 2, Key: key1, Kind: api.Full}, "02 00000002" + hex1 + "05"},

	{api.Reply{Client: 0, Seq: 1, Kind: api.Ok}, "00 00000001" + hex0 + "02"},
	{api.Reply{Client: 3, Seq: most32, Key: most64, Kind: api.Ok}, "03 ffffffff" + hexFF + "02"},
	{api.Reply{Seq: 1, Kind: api.Value, Found: true}, "00 00000001" + hex0 + "01 01" + hex0},
	{api.Reply{Seq: 1, Kind: api.Value, Found: true, Value: most64}, "00 00000001" + hex0 + "01 01" + hexFF},
}

// What a Tell may say, but no range remembers.
var passingReplies = []part[api.Reply]{
	{api.Reply{Client: 1, Seq: 2, Key: key1, Kind: api.Redirect, Group: 2}, "01 00000002" + hex1 + "03 02"},
	{api.Reply{Client: 1, Seq: 2, Key: key1, Kind: api.Redirect, Group: 0}, "01 00000002" + hex1 + "03 00"},
	{api.Reply{Client: 3, Seq: most32, Key: most64, Kind: api.Redirect, Group: 3}, "03 ffffffff" + hexFF + "03 03"},
	{api.Reply{Client: 1, Seq: 2, Key: key1, Kind: api.Stale}, "01 00000002" + hex1 + "04"},
}

var wrongReplies = []part[api.Reply]{
	{api.Reply{}, "00 00000000" + hex0 + "00"},
	{api.Reply{Client: 4, Seq: 1, Kind: api.Ok}, "04 00000001" + hex0 + "02"},
	{api.Reply{Client: 255, Seq: 1, Kind: api.Value}, "ff 00000001" + hex0 + "01 00"},
	{api.Reply{Client: 4, Seq: 1, Kind: api.Redirect}, "04 00000001" + hex0 + "03 00"},
	{api.Reply{Seq: 0, Kind: api.Value}, "00 00000000" + hex0 + "01 00"},
	{api.Reply{Seq: 0, Kind: api.Ok}, "00 00000000" + hex0 + "02"},
	{api.Reply{Seq: 0, Kind: api.Redirect}, "00 00000000" + hex0 + "03 00"},
	{api.Reply{Seq: 0, Kind: api.Stale}, "00 00000000" + hex0 + "04"},
	{api.Reply{Seq: 0, Kind: api.Full}, "00 00000000" + hex0 + "05"},
	{api.Reply{Seq: 1, Kind: 0}, "00 00000001" + hex0 + "00"},
	{api.Reply{Seq: 1, Kind: 6}, "00 00000001" + hex0 + "06"},
	{api.Reply{Seq: 1, Kind: 255}, "00 00000001" + hex0 + "ff"},
	{api.Reply{Seq: 1, Kind: api.Redirect, Group: 4}, "00 00000001" + hex0 + "03 04"},
	{api.Reply{Seq: 1, Kind: api.Redirect, Group: 255}, "00 00000001" + hex0 + "03 ff"},

	{is: api.Reply{Seq: 1, Kind: api.Value, Value: 1}},
	{is: api.Reply{Seq: 1, Kind: api.Value, Group: 1}},
	{is: api.Reply{Seq: 1, Kind: api.Value, Found: true, Value: 1, Group: 1}},
	{is: api.Reply{Seq: 1, Kind: api.Ok, Found: true}},
	{is: api.Reply{Seq: 1, Kind: api.Ok, Value: 1}},
	{is: api.Reply{Seq: 1, Kind: api.Ok, Group: 1}},
	{is: api.Reply{Seq: 1, Kind: api.Redirect, Found: true}},
	{is: api.Reply{Seq: 1, Kind: api.Redirect, Value: 1}},
	{is: api.Reply{Seq: 1, Kind: api.Stale, Found: true}},
	{is: api.Reply{Seq: 1, Kind: api.Stale, Value: 1}},
	{is: api.Reply{Seq: 1, Kind: api.Stale, Group: 1}},
	{is: api.Reply{Seq: 1, Kind: api.Full, Found: true}},
	{is: api.Reply{Seq: 1, Kind: api.Full, Value: 1}},
	{is: api.Reply{Seq: 1, Kind: api.Full, Group: 1}},
}

func TestReplies(t *testing.T) {
	tell := []carrier[api.Reply]{tellCarrier}
	checkRight(t, tell, rightDups)
	checkRight(t, tell, passingReplies)
	checkWrong(t, tell, wrongReplies)
}

func TestDups(t *testing.T) {
	checkRight(t, dupCarriers(), rightDups)
	checkWrong(t, dupCarriers(), passingReplies)
	checkWrong(t, dupCarriers(), wrongReplies)
}

// A Found that is neither 1 nor 0 is no byte of a right message, with a Value
// behind it or without one.
func TestFoundByte(t *testing.T) {
	for _, c := range append(dupCarriers(), tellCarrier) {
		for _, found := range []string{"02", "03", "80", "ff"} {
			for _, value := range []string{"", hex0, hex1} {
				noMessage(t, raw(t, c.ahead+"00 00000001"+hex0+"01"+found+value+c.behind))
			}
		}
	}
}
