// Package frame is layer 1, frames as bytes: see shared/doc/01-frame.md.
package frame

import (
	"sync/atomic"

	"treebridge/api"
)

// How a frame's bytes are laid out.
const (
	tagType     = 0x8100 // stands where the type would, so no frame's own type may be it
	tagLen      = 4
	typeLen     = 2
	maxType     = 0xffff
	maxPriority = 7
	priorityAt  = 13     // the Priority is above the lower 13 bits of a tag's number
	spareBit    = 0x1000 // between Priority and Vlan
	vlanBits    = 0x0fff
	groupBit    = 1
)

// Right tells whether f is a frame that may stand on a LAN.
func Right(f api.Frame) bool {
	return len(f.Dst) == api.MacLen && len(f.Src) == api.MacLen && !Group(f.Src) &&
		rightTag(f) && rightType(f)
}

func rightTag(f api.Frame) bool {
	if !f.Tagged {
		return f.Priority == 0 && f.Vlan == 0
	}
	return within(f.Priority, maxPriority) && within(f.Vlan, api.MaxVlan)
}

func rightType(f api.Frame) bool {
	if !within(f.Type, maxType) || f.Type == tagType || len(f.Payload) > api.MaxPayload {
		return false
	}
	return f.Type >= api.MinLength || f.Type == len(f.Payload)
}

func within(n, most int) bool { return n >= 0 && n <= most }

// Print answers f's bytes.
func Print(f api.Frame) (string, api.Errno) {
	if !Right(f) {
		return "", api.ErrForm
	}
	b := make([]byte, 0, 2*api.MacLen+tagLen+typeLen+len(f.Payload))
	b = append(b, f.Dst...)
	b = append(b, f.Src...)
	if f.Tagged {
		b = appendNumber(b, tagType)
		b = appendNumber(b, f.Priority<<priorityAt|f.Vlan)
	}
	b = appendNumber(b, f.Type)
	b = append(b, f.Payload...)
	return string(b), api.OK
}

func appendNumber(b []byte, n int) []byte { return append(b, byte(n>>8), byte(n)) }

// numberAt reads two bytes of s, the higher first.
func numberAt(s string, at int) int { return int(s[at])<<8 | int(s[at+1]) }

// Parse answers the frame of which s is the bytes.
func Parse(s string) (api.Frame, api.Errno) {
	at := 2 * api.MacLen // where the type is
	if len(s) < at+typeLen {
		return api.Frame{}, api.ErrShort
	}
	tagged := numberAt(s, at) == tagType
	if tagged {
		at += tagLen
	}
	if len(s) < at+typeLen {
		return api.Frame{}, api.ErrShort
	}
	if len(s) > at+typeLen+api.MaxPayload {
		return api.Frame{}, api.ErrLong
	}
	f := api.Frame{
		Dst:     s[:api.MacLen],
		Src:     s[api.MacLen : 2*api.MacLen],
		Tagged:  tagged,
		Type:    numberAt(s, at),
		Payload: s[at+typeLen:],
	}
	if tagged {
		tag := numberAt(s, at-2)
		// No field holds this bit, so Right can't refuse it.
		if tag&spareBit != 0 {
			return api.Frame{}, api.ErrForm
		}
		f.Priority, f.Vlan = tag>>priorityAt, tag&vlanBits
	}
	if !Right(f) {
		return api.Frame{}, api.ErrForm
	}
	return f, api.OK
}

// Group tells whether mac is a group's address.
func Group(mac string) bool {
	return len(mac) == api.MacLen && mac[0]&groupBit != 0
}

// With answers f with a tag of vlan.
func With(f api.Frame, vlan int) (api.Frame, api.Errno) {
	if !Right(f) {
		return api.Frame{}, api.ErrForm
	}
	if !within(vlan, api.MaxVlan) {
		return api.Frame{}, api.ErrRange
	}
	f.Tagged, f.Vlan = true, vlan
	return f, api.OK
}

// Without answers f without a tag.
func Without(f api.Frame) (api.Frame, api.Errno) {
	if !Right(f) {
		return api.Frame{}, api.ErrForm
	}
	f.Tagged, f.Priority, f.Vlan = false, 0, 0
	return f, api.OK
}

// Counter parses frames, and counts how that went.
type Counter struct {
	good, bad atomic.Int64
}

// New answers a counter that counted nothing.
func New() *Counter { return &Counter{} }

// Parse does as the function Parse does, and counts it.
func (c *Counter) Parse(s string) (api.Frame, api.Errno) {
	f, e := Parse(s)
	if e == api.OK {
		c.good.Add(1)
	} else {
		c.bad.Add(1)
	}
	return f, e
}

// Count answers how many frames were parsed without an error, and with one.
func (c *Counter) Count() (good, bad int) {
	return int(c.good.Load()), int(c.bad.Load())
}
