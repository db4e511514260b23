package right

import "handover/api"

// Range tells whether a range is right.
func Range(r api.Range) bool {
	return group(r.Src) && group(r.Dst) && r.Seq >= 1 && r.Lo <= r.Hi && rows(r) && dups(r)
}

// noRange counts an empty list and nil as alike, which == can't do.
func noRange(r api.Range) bool {
	return r.Src == 0 && r.Dst == 0 && r.Seq == 0 && r.Lo == 0 && r.Hi == 0 &&
		len(r.Rows) == 0 && len(r.Dups) == 0
}

func within(r api.Range, key uint64) bool { return r.Lo <= key && key <= r.Hi }

func rows(r api.Range) bool {
	if len(r.Rows) > api.MaxList {
		return false
	}
	for i, row := range r.Rows {
		if !within(r, row.Key) {
			return false
		}
		if i > 0 && row.Key <= r.Rows[i-1].Key {
			return false
		}
	}
	return true
}

func dups(r api.Range) bool {
	if len(r.Dups) > api.MaxList {
		return false
	}
	for i, p := range r.Dups {
		if !reply(p) || !remembered(p.Kind) || !within(r, p.Key) {
			return false
		}
		if i > 0 && !ahead(r.Dups[i-1], p) {
			return false
		}
	}
	return true
}

// remembered leaves out the replies that change nothing: no shard keeps them.
func remembered(kind uint8) bool {
	return kind == api.Value || kind == api.Ok || kind == api.Full
}

func ahead(a, b api.Reply) bool {
	return a.Key < b.Key || a.Key == b.Key && a.Client < b.Client
}
