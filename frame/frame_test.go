package frame

import (
	"math/rand"
	"strings"
	"sync"
	"testing"

	"treebridge/api"
)

const (
	all   = "\xff\xff\xff\xff\xff\xff"
	one   = "\x02\x00\x00\x00\x00\x01"
	group = "\x03\x00\x00\x00\x00\x01"
)

func fill(n int) string { return strings.Repeat("x", n) }

// rightFrames are right frames with the bytes that the document gives them.
var rightFrames = []struct {
	name  string
	frame api.Frame
	bytes string
}{
	{"the example", api.Frame{Dst: all, Src: one, Type: 0x0800, Payload: "p"}, all + one + "\x08\x00p"},
	{"14 bytes", api.Frame{Dst: one, Src: one, Type: 0x0800}, one + one + "\x08\x00"},
	{"18 bytes", api.Frame{Dst: one, Src: one, Tagged: true, Vlan: 1, Type: 0x0800}, one + one + "\x81\x00\x00\x01\x08\x00"},
	{"length 0", api.Frame{Dst: one, Src: one}, one + one + "\x00\x00"},
	{"length 3", api.Frame{Dst: one, Src: one, Type: 3, Payload: "abc"}, one + one + "\x00\x03abc"},
	{"length 1500", api.Frame{Dst: one, Src: one, Type: 1500, Payload: fill(1500)}, one + one + "\x05\xdc" + fill(1500)},
	{"tagged length", api.Frame{Dst: one, Src: one, Tagged: true, Vlan: 7, Type: 1, Payload: "a"}, one + one + "\x81\x00\x00\x07\x00\x01a"},
	{"tagged length 1500", api.Frame{Dst: one, Src: one, Tagged: true, Vlan: 7, Type: 1500, Payload: fill(1500)}, one + one + "\x81\x00\x00\x07\x05\xdc" + fill(1500)},
	{"type 1536", api.Frame{Dst: one, Src: one, Type: 1536}, one + one + "\x06\x00"},
	{"type 1536, 1500 bytes", api.Frame{Dst: one, Src: one, Type: 1536, Payload: fill(1500)}, one + one + "\x06\x00" + fill(1500)},
	{"type 65535", api.Frame{Dst: one, Src: one, Type: 65535, Payload: "z"}, one + one + "\xff\xffz"},
	{"beside the tag's type, below", api.Frame{Dst: one, Src: one, Type: 0x80ff}, one + one + "\x80\xff"},
	{"beside the tag's type, above", api.Frame{Dst: one, Src: one, Type: 0x8101}, one + one + "\x81\x01"},
	{"tag of zeroes", api.Frame{Dst: one, Src: one, Tagged: true, Type: 0x0800}, one + one + "\x81\x00\x00\x00\x08\x00"},
	{"tag of the greatest", api.Frame{Dst: one, Src: one, Tagged: true, Priority: 7, Vlan: 4094, Type: 0x0800}, one + one + "\x81\x00\xef\xfe\x08\x00"},
	{"priority alone", api.Frame{Dst: one, Src: one, Tagged: true, Priority: 5, Type: 0x0800}, one + one + "\x81\x00\xa0\x00\x08\x00"},
	{"vlan of two bytes", api.Frame{Dst: one, Src: one, Tagged: true, Priority: 1, Vlan: 0x123, Type: 0x0800}, one + one + "\x81\x00\x21\x23\x08\x00"},
	{"a tag within the payload", api.Frame{Dst: one, Src: one, Type: 0x0800, Payload: "\x81\x00"}, one + one + "\x08\x00\x81\x00"},
}

// wrongFrames differ from a right one in one thing each.
func wrongFrames() map[string]api.Frame {
	plain := api.Frame{Dst: all, Src: one, Type: 0x0800, Payload: "p"}
	tagged := plain
	tagged.Tagged, tagged.Priority, tagged.Vlan = true, 3, 9
	out := map[string]api.Frame{"zero": {}}
	change := func(name string, f api.Frame, do func(f *api.Frame)) {
		do(&f)
		out[name] = f
	}
	change("Dst of 5", plain, func(f *api.Frame) { f.Dst = all[:5] })
	change("Dst of 7", plain, func(f *api.Frame) { f.Dst = all + "\x00" })
	change("no Dst", plain, func(f *api.Frame) { f.Dst = "" })
	change("Src of 5", plain, func(f *api.Frame) { f.Src = one[:5] })
	change("Src of 7", plain, func(f *api.Frame) { f.Src = one + "\x00" })
	change("no Src", plain, func(f *api.Frame) { f.Src = "" })
	change("Src of all", plain, func(f *api.Frame) { f.Src = all })
	change("Src of a group", plain, func(f *api.Frame) { f.Src = group })
	change("Priority without a tag", plain, func(f *api.Frame) { f.Priority = 1 })
	change("Vlan without a tag", plain, func(f *api.Frame) { f.Vlan = 1 })
	change("Priority 8", tagged, func(f *api.Frame) { f.Priority = 8 })
	change("Priority -1", tagged, func(f *api.Frame) { f.Priority = -1 })
	change("Vlan 4095", tagged, func(f *api.Frame) { f.Vlan = 4095 })
	change("Vlan -1", tagged, func(f *api.Frame) { f.Vlan = -1 })
	change("Type -1", plain, func(f *api.Frame) { f.Type = -1 })
	change("Type 65536", plain, func(f *api.Frame) { f.Type = 65536 })
	change("the tag's type", plain, func(f *api.Frame) { f.Type = 0x8100 })
	change("the tag's type behind a tag", tagged, func(f *api.Frame) { f.Type = 0x8100 })
	change("a length too small", plain, func(f *api.Frame) { f.Type = 0 })
	change("a length too great", plain, func(f *api.Frame) { f.Type = 2 })
	change("length 1535", plain, func(f *api.Frame) { f.Type = 1535 })
	change("length 1535 of as many", plain, func(f *api.Frame) { f.Type, f.Payload = 1535, fill(1535) })
	change("length 1501 of as many", plain, func(f *api.Frame) { f.Type, f.Payload = 1501, fill(1501) })
	change("1501 bytes of a type", plain, func(f *api.Frame) { f.Payload = fill(1501) })
	return out
}

// P1.1
func TestRightFramesArePrinted(t *testing.T) {
	for _, c := range rightFrames {
		if !Right(c.frame) {
			t.Errorf("%s: not right", c.name)
		}
		if s, e := Print(c.frame); s != c.bytes || e != api.OK {
			t.Errorf("%s: %.40x %v", c.name, s, e)
		}
	}
}

// P1.1
func TestWrongFramesAreNotPrinted(t *testing.T) {
	for name, f := range wrongFrames() {
		if Right(f) {
			t.Errorf("%s: right", name)
		}
		if s, e := Print(f); s != "" || e != api.ErrForm {
			t.Errorf("%s: %.40x %v", name, s, e)
		}
	}
}

// P1.1
func TestGroup(t *testing.T) {
	for mac, want := range map[string]bool{
		all: true, group: true, "\x01\x80\xc2\x00\x00\x00": true,
		one: false, "\x00\x00\x00\x00\x00\x00": false, "\xfe\xff\xff\xff\xff\xff": false,
		"": false, "\x01": false, all[:5]: false, all + "\xff": false,
	} {
		if Group(mac) != want {
			t.Errorf("%x: %v", mac, !want)
		}
	}
}

// P1.1
func TestParseOfRightBytes(t *testing.T) {
	for _, c := range rightFrames {
		if f, e := Parse(c.bytes); f != c.frame || e != api.OK {
			t.Errorf("%s: %v %v", c.name, f, e)
		}
	}
}

// wrongBytes are bytes of no right frame; where several errors apply, the first of the promise is wanted.
var wrongBytes = []struct {
	name  string
	bytes string
	want  api.Errno
}{
	{"nothing", "", api.ErrShort},
	{"13 bytes", one + one + "\x08", api.ErrShort},
	{"13 bytes, half a tag", one + one + "\x81", api.ErrShort},
	{"14 bytes, tagged", one + one + "\x81\x00", api.ErrShort},
	{"17 bytes, tagged", one + one + "\x81\x00\x00\x01\x08", api.ErrShort},
	{"13 bytes, a group's Src", one + group + "\x08", api.ErrShort},
	{"17 bytes, tagged, a group's Src", one + group + "\x81\x00\x00\x01\x08", api.ErrShort},
	{"17 bytes, tagged, Vlan 4095", one + one + "\x81\x00\x0f\xff\x08", api.ErrShort},
	{"17 bytes, tagged, the bit", one + one + "\x81\x00\x10\x01\x08", api.ErrShort},
	{"1501 of a type", one + one + "\x08\x00" + fill(1501), api.ErrLong},
	{"1501 of a type, tagged", one + one + "\x81\x00\x00\x01\x08\x00" + fill(1501), api.ErrLong},
	{"1501 of a length of as many", one + one + "\x05\xdd" + fill(1501), api.ErrLong},
	{"1535 of a length of as many", one + one + "\x05\xff" + fill(1535), api.ErrLong},
	{"1501 of a length of 3", one + one + "\x00\x03" + fill(1501), api.ErrLong},
	{"1501, a group's Src", one + group + "\x08\x00" + fill(1501), api.ErrLong},
	{"1501, Vlan 4095", one + one + "\x81\x00\x0f\xff\x08\x00" + fill(1501), api.ErrLong},
	{"1501, the bit", one + one + "\x81\x00\x10\x01\x08\x00" + fill(1501), api.ErrLong},
	{"1501 behind two tags' types", one + one + "\x81\x00\x00\x01\x81\x00" + fill(1501), api.ErrLong},
	{"the bit", one + one + "\x81\x00\x10\x01\x08\x00", api.ErrForm},
	{"the bit, Priority 7", one + one + "\x81\x00\xf0\x01\x08\x00", api.ErrForm},
	{"Vlan 4095", one + one + "\x81\x00\x0f\xff\x08\x00", api.ErrForm},
	{"Vlan 4095, Priority 7", one + one + "\x81\x00\xef\xff\x08\x00", api.ErrForm},
	{"two tags", one + one + "\x81\x00\x00\x01\x81\x00\x00\x02\x08\x00", api.ErrForm},
	{"two tags' types", one + one + "\x81\x00\x00\x01\x81\x00", api.ErrForm},
	{"two tags, 1500 behind", one + one + "\x81\x00\x00\x01\x81\x00" + fill(1500), api.ErrForm},
	{"length 1 of none", one + one + "\x00\x01", api.ErrForm},
	{"length 2 of 1", one + one + "\x00\x02a", api.ErrForm},
	{"length 2 of 3", one + one + "\x00\x02abc", api.ErrForm},
	{"padding behind a length", one + one + "\x00\x03abc" + strings.Repeat("\x00", 43), api.ErrForm},
	{"padding behind a length, tagged", one + one + "\x81\x00\x00\x01\x00\x03abc\x00", api.ErrForm},
	{"length 1500 of 1499", one + one + "\x05\xdc" + fill(1499), api.ErrForm},
	{"length 1501 of 1500", one + one + "\x05\xdd" + fill(1500), api.ErrForm},
	{"length 1535 of 1500", one + one + "\x05\xff" + fill(1500), api.ErrForm},
	{"a group's Src", one + group + "\x08\x00", api.ErrForm},
	{"a group's Src, tagged", one + group + "\x81\x00\x00\x01\x08\x00", api.ErrForm},
	{"Src of all", one + all + "\x08\x00", api.ErrForm},
}

// P1.1
func TestParseOfWrongBytes(t *testing.T) {
	for _, c := range wrongBytes {
		if f, e := Parse(c.bytes); f != (api.Frame{}) || e != c.want {
			t.Errorf("%s: %v %v, want %v", c.name, f, e, c.want)
		}
	}
}

// P1.2
func TestWith(t *testing.T) {
	plain := api.Frame{Dst: all, Src: one, Type: 3, Payload: "abc"}
	tagged := api.Frame{Dst: all, Src: one, Tagged: true, Priority: 6, Vlan: 9, Type: 0x0800, Payload: "p"}
	for _, vlan := range []int{0, 1, 9, 4093, 4094} {
		want := plain
		want.Tagged, want.Vlan = true, vlan
		if f, e := With(plain, vlan); f != want || e != api.OK || !Right(f) {
			t.Errorf("untagged, %d: %v %v", vlan, f, e)
		}
		want = tagged
		want.Vlan = vlan
		if f, e := With(tagged, vlan); f != want || e != api.OK || !Right(f) {
			t.Errorf("tagged, %d: %v %v", vlan, f, e)
		}
	}
	for _, vlan := range []int{-1, 4095, 4096, 1 << 40, -1 << 63, 1<<63 - 1} {
		if f, e := With(tagged, vlan); f != (api.Frame{}) || e != api.ErrRange {
			t.Errorf("%d: %v %v", vlan, f, e)
		}
	}
}

// P1.2
func TestWithout(t *testing.T) {
	plain := api.Frame{Dst: all, Src: one, Type: 3, Payload: "abc"}
	tagged := plain
	tagged.Tagged, tagged.Priority, tagged.Vlan = true, 6, 9
	zeroes := plain
	zeroes.Tagged = true
	for _, f := range []api.Frame{plain, tagged, zeroes} {
		if g, e := Without(f); g != plain || e != api.OK {
			t.Errorf("%v: %v %v", f, g, e)
		}
	}
}

// P1.2: of a wrong frame ErrForm, also where the VLAN is out of its range.
func TestTagsOfWrongFrames(t *testing.T) {
	for name, f := range wrongFrames() {
		for _, vlan := range []int{-1, 0, 1, 4094, 4095} {
			if g, e := With(f, vlan); g != (api.Frame{}) || e != api.ErrForm {
				t.Errorf("%s, with %d: %v %v", name, vlan, g, e)
			}
		}
		if g, e := Without(f); g != (api.Frame{}) || e != api.ErrForm {
			t.Errorf("%s, without: %v %v", name, g, e)
		}
	}
}

// P1.3
func TestCounter(t *testing.T) {
	c, other := New(), New()
	if good, bad := c.Count(); good != 0 || bad != 0 {
		t.Fatalf("new: %d %d", good, bad)
	}
	for i, w := range rightFrames {
		if f, e := c.Parse(w.bytes); f != w.frame || e != api.OK {
			t.Errorf("%s: %v %v", w.name, f, e)
		}
		if good, bad := c.Count(); good != i+1 || bad != 0 {
			t.Errorf("%s: %d %d", w.name, good, bad)
		}
	}
	for i, w := range wrongBytes {
		if f, e := c.Parse(w.bytes); f != (api.Frame{}) || e != w.want {
			t.Errorf("%s: %v %v", w.name, f, e)
		}
		if good, bad := c.Count(); good != len(rightFrames) || bad != i+1 {
			t.Errorf("%s: %d %d", w.name, good, bad)
		}
	}
	Parse(rightFrames[0].bytes)
	Parse("")
	if good, bad := c.Count(); good != len(rightFrames) || bad != len(wrongBytes) {
		t.Errorf("the function counts: %d %d", good, bad)
	}
	if good, bad := other.Count(); good != 0 || bad != 0 {
		t.Errorf("another counter: %d %d", good, bad)
	}
}

// P1.3: the counts are atomics, so none is lost where several parse at once.
func TestCounterOfSeveral(t *testing.T) {
	const workers, each = 8, 500
	c := New()
	var w sync.WaitGroup
	for range workers {
		w.Go(func() {
			for range each {
				c.Parse(rightFrames[0].bytes)
				c.Parse("")
			}
		})
	}
	w.Wait()
	if good, bad := c.Count(); good != workers*each || bad != workers*each {
		t.Errorf("%d %d", good, bad)
	}
}

func anyMac(r *rand.Rand) string {
	b := make([]byte, api.MacLen)
	r.Read(b)
	return string(b)
}

func anyFrame(r *rand.Rand) api.Frame {
	f := api.Frame{Dst: anyMac(r), Src: anyMac(r), Payload: fill(r.Intn(1502)), Tagged: r.Intn(2) == 0}
	if f.Tagged {
		f.Priority, f.Vlan = r.Intn(9), r.Intn(4096)
	}
	if f.Type = r.Intn(65537); r.Intn(2) == 0 {
		f.Type = len(f.Payload)
	}
	return f
}

// P1.4: what was printed is parsed.
func TestPrintedIsParsed(t *testing.T) {
	r := rand.New(rand.NewSource(1))
	right := 0
	for range 20000 {
		f := anyFrame(r)
		s, e := Print(f)
		if Right(f) != (e == api.OK) {
			t.Fatalf("%v: Right says otherwise than %v", f, e)
		}
		if e != api.OK {
			continue
		}
		right++
		if g, e := Parse(s); g != f || e != api.OK {
			t.Fatalf("%v: %v %v", f, g, e)
		}
	}
	if right < 1000 {
		t.Errorf("only %d right frames", right)
	}
}

// anyBytes are near to a frame's: few values, so that tags and lengths come often.
func anyBytes(r *rand.Rand) string {
	b := []byte(one + one)
	heads := []string{"\x81\x00", "\x08\x00", "\x00\x00", "\x00\x02", "\x0f\xff", "\x10\x01", "\xef\xfe", ""}
	for range 4 {
		b = append(b, heads[r.Intn(len(heads))]...)
	}
	b[r.Intn(len(b))] ^= byte(r.Intn(3))
	return string(b[:len(b)-r.Intn(4)])
}

// P1.4: one frame has one row of bytes: what is parsed is printed as it stood.
func TestParsedIsPrinted(t *testing.T) {
	r := rand.New(rand.NewSource(2))
	right := 0
	for range 20000 {
		s := anyBytes(r)
		f, e := Parse(s)
		if e != api.OK {
			if f != (api.Frame{}) {
				t.Fatalf("%x: %v beside %v", s, f, e)
			}
			continue
		}
		right++
		if x, e := Print(f); x != s || e != api.OK {
			t.Fatalf("%x: %x %v", s, x, e)
		}
	}
	if right < 1000 {
		t.Errorf("only %d right rows", right)
	}
}

// P1.4: each tag's number but those of the bit and of Vlan 4095 is a tag, printed as it stood.
func TestEveryTag(t *testing.T) {
	for tag := range 1 << 16 {
		s := one + one + "\x81\x00" + string([]byte{byte(tag >> 8), byte(tag)}) + "\x08\x00p"
		f, e := Parse(s)
		if tag&0x1000 != 0 || tag&0xfff == 4095 {
			if f != (api.Frame{}) || e != api.ErrForm {
				t.Fatalf("%04x: %v %v", tag, f, e)
			}
			continue
		}
		if e != api.OK || f.Priority != tag/8192 || f.Vlan != tag%4096 {
			t.Fatalf("%04x: %v %v", tag, f, e)
		}
		if x, e := Print(f); x != s || e != api.OK {
			t.Fatalf("%04x: %x %v", tag, x, e)
		}
	}
}

// P1.4: each type from 1536 on but the tag's stands for itself; each below is the payload's length or nothing.
func TestEveryType(t *testing.T) {
	for n := range 1 << 16 {
		if n == 0x8100 {
			continue
		}
		s := one + one + string([]byte{byte(n >> 8), byte(n)}) + "ab"
		want := api.OK
		if n < 1536 && n != 2 {
			want = api.ErrForm
		}
		f, e := Parse(s)
		if e != want || e == api.OK && f.Type != n {
			t.Fatalf("%04x: %v %v", n, f, e)
		}
	}
}
