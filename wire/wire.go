// Package wire: messages as bytes: see DOC.md.
package wire

import (
	"handover/api"
	"handover/right"
)

// Marshal writes a message (P3).
func Marshal(m api.Message) (string, api.Errno) {
	if !right.Message(m) {
		return "", api.ErrMessage
	}
	return string(putMessage(nil, m)), api.OK
}

// Parse reads a message (P4). Reading alone lets much pass: bytes cut short or
// left over, a Found of 2, keys out of order. But a message that is right and
// is written as just these bytes is the one that they mean.
func Parse(s string) (api.Message, api.Errno) {
	in := source{rest: s}
	m := in.message()
	written, e := Marshal(m)
	if e != api.OK || written != s {
		return api.Message{}, api.ErrBytes
	}
	return m, api.OK
}
