package llc

import (
	"math"
	"math/rand"
	"strings"
	"testing"

	"treebridge/api"
	"treebridge/frame"
)

const (
	host      = "\x02\x00\x00\x00\x00\x01"
	groupSrc  = "\x03\x00\x00\x00\x00\x01"
	all       = "\xff\xff\xff\xff\xff\xff"
	ieeeGroup = "\x01\x80\xc2\x00\x00\x00"
	sstpGroup = "\x01\x00\x0c\xcc\xcc\xcd"
	bpduBytes = "\x42\x42\x03"
	sstpBytes = "\xaa\xaa\x03\x00\x00\x0c\x01\x0b"
)

func fill(n int) string { return strings.Repeat("x", n) }

// long is a frame of a length.
func long(dst, payload string) api.Frame {
	return api.Frame{Dst: dst, Src: host, Type: len(payload), Payload: payload}
}

func typed(dst string, number int, payload string) api.Frame {
	return api.Frame{Dst: dst, Src: host, Type: number, Payload: payload}
}

// withTags answers f, and f with tags that are right.
func withTags(f api.Frame) []api.Frame {
	out := []api.Frame{f}
	for _, tag := range []struct{ priority, vlan int }{{0, 0}, {0, 1}, {5, 7}, {7, 4094}} {
		g := f
		g.Tagged, g.Priority, g.Vlan = true, tag.priority, tag.vlan
		out = append(out, g)
	}
	return out
}

// kinds are right frames of each kind; inner is of kinds 1 and 2 alone.
var kinds = []struct {
	name  string
	frame api.Frame
	kind  int
	inner string
}{
	{"a BPDU's", long(ieeeGroup, bpduBytes+"inner"), 1, "inner"},
	{"a BPDU's of nothing", long(ieeeGroup, bpduBytes), 1, ""},
	{"a BPDU's of 1500", long(ieeeGroup, bpduBytes+fill(1497)), 1, fill(1497)},
	{"a BPDU's with a head in it", long(ieeeGroup, bpduBytes+bpduBytes), 1, bpduBytes},
	{"SSTP's", long(sstpGroup, sstpBytes+"inner"), 2, "inner"},
	{"SSTP's of nothing", long(sstpGroup, sstpBytes), 2, ""},
	{"SSTP's of 1500", long(sstpGroup, sstpBytes+fill(1492)), 2, fill(1492)},
	{"SSTP's with a head in it", long(sstpGroup, sstpBytes+sstpBytes), 2, sstpBytes},

	{"IEEE's group, a type of 1536", typed(ieeeGroup, 1536, bpduBytes), 3, ""},
	{"IEEE's group, a type of 2048", typed(ieeeGroup, 2048, bpduBytes+"inner"), 3, ""},
	{"IEEE's group, a type of 65535", typed(ieeeGroup, 65535, bpduBytes+"inner"), 3, ""},
	{"SSTP's group, a type of 1536", typed(sstpGroup, 1536, sstpBytes), 3, ""},
	{"SSTP's group, a type of 65535", typed(sstpGroup, 65535, sstpBytes+"inner"), 3, ""},
	{"IEEE's group, SSTP's payload", long(ieeeGroup, sstpBytes+"inner"), 3, ""},
	{"SSTP's group, a BPDU's payload", long(sstpGroup, bpduBytes+"inner"), 3, ""},
	{"IEEE's group, nothing", long(ieeeGroup, ""), 3, ""},
	{"SSTP's group, nothing", long(sstpGroup, ""), 3, ""},
	{"the last reserved", long("\x01\x80\xc2\x00\x00\x0f", bpduBytes), 3, ""},

	{"the first behind the reserved", long("\x01\x80\xc2\x00\x00\x10", bpduBytes), 0, ""},
	{"the last of its byte", long("\x01\x80\xc2\x00\x00\xff", bpduBytes), 0, ""},
	{"ahead of the reserved", long("\x01\x80\xc1\xff\xff\xff", bpduBytes), 0, ""},
	{"a byte beside, reserved else", long("\x01\x80\xc2\x00\x01\x00", bpduBytes), 0, ""},
	{"ahead of SSTP's group", long("\x01\x00\x0c\xcc\xcc\xcc", sstpBytes), 0, ""},
	{"behind SSTP's group", long("\x01\x00\x0c\xcc\xcc\xce", sstpBytes), 0, ""},
	{"a host's, a BPDU's payload", long(host, bpduBytes+"inner"), 0, ""},
	{"a host's, SSTP's payload", long(host, sstpBytes+"inner"), 0, ""},
	{"a host's, as IEEE's group but for the group's bit", long("\x00\x80\xc2\x00\x00\x00", bpduBytes), 0, ""},
	{"to all, a BPDU's payload", long(all, bpduBytes), 0, ""},
	{"a host's of a type", typed(host, 2048, "p"), 0, ""},
}

// checkKind asks f's Kind, and its Inner, which is an error of what is neither 1 nor 2.
func checkKind(t *testing.T, name string, f api.Frame, kind int, inner string) {
	t.Helper()
	if k := Kind(f); k != kind {
		t.Errorf("%s: kind %d, want %d", name, k, kind)
	}
	want := api.ErrKind
	if kind == 1 || kind == 2 {
		want = api.OK
	}
	if s, e := Inner(f); s != inner || e != want {
		t.Errorf("%s: inner %.40x %v", name, s, e)
	}
}

// P2.1
func TestKindAndInner(t *testing.T) {
	for _, c := range kinds {
		for _, f := range withTags(c.frame) {
			if !frame.Right(f) {
				t.Fatalf("%s: not right", c.name)
			}
			checkKind(t, c.name, f, c.kind, c.inner)
		}
	}
}

// P2.1: each of the 256 addresses that differ from IEEE's group in the last byte alone.
func TestReservedAddresses(t *testing.T) {
	for last := range 256 {
		dst := ieeeGroup[:5] + string([]byte{byte(last)})
		kind := 0
		if last <= 0x0f {
			kind = 3
		}
		checkKind(t, dst, long(dst, ""), kind, "")
		checkKind(t, dst, typed(dst, 2048, bpduBytes), kind, "")
		checkKind(t, dst, long(dst, sstpBytes), kind, "")
		if last == 0 {
			continue
		}
		checkKind(t, dst, long(dst, bpduBytes), kind, "")
	}
}

// P2.1: an address is a group's, or reserved, by all of its bytes.
func TestAddressesAByteBeside(t *testing.T) {
	for i := range api.MacLen {
		for _, c := range []struct{ group, head string }{{ieeeGroup, bpduBytes}, {sstpGroup, sstpBytes}} {
			dst := []byte(c.group)
			dst[i] ^= 0x80
			checkKind(t, string(dst), long(string(dst), c.head), 0, "")
		}
	}
}

// P2.1: a payload that ends within its head, or differs from it in a byte, is of kind 3.
func TestHeadsCutAndChanged(t *testing.T) {
	for _, c := range []struct{ group, head string }{{ieeeGroup, bpduBytes}, {sstpGroup, sstpBytes}} {
		for n := range len(c.head) {
			checkKind(t, "cut", long(c.group, c.head[:n]), 3, "")
			for bit := range 8 {
				b := []byte(c.head + "inner")
				b[n] ^= 1 << bit
				checkKind(t, "changed", long(c.group, string(b)), 3, "")
			}
			checkKind(t, "behind a byte", long(c.group, "x"+c.head), 3, "")
		}
	}
}

// P2.1: from 1536 on a type, so no BPDU's and not SSTP's, whatever the payload.
func TestTypesAreNoLengths(t *testing.T) {
	for number := api.MinLength; number < 1<<16; number++ {
		if number == 0x8100 {
			continue
		}
		checkKind(t, "IEEE's group", typed(ieeeGroup, number, bpduBytes), 3, "")
		checkKind(t, "SSTP's group", typed(sstpGroup, number, sstpBytes), 3, "")
	}
}

// P2.1: what isn't right is of kind 0, wherever it goes.
func TestFramesThatAreNotRight(t *testing.T) {
	for _, right := range []api.Frame{
		long(ieeeGroup, bpduBytes+"inner"),
		long(sstpGroup, sstpBytes+"inner"),
		long("\x01\x80\xc2\x00\x00\x0f", "inner"),
	} {
		for name, do := range map[string]func(f *api.Frame){
			"no Src":                 func(f *api.Frame) { f.Src = "" },
			"Src of 5":               func(f *api.Frame) { f.Src = host[:5] },
			"Src of 7":               func(f *api.Frame) { f.Src = host + "\x00" },
			"a group's Src":          func(f *api.Frame) { f.Src = groupSrc },
			"no Dst":                 func(f *api.Frame) { f.Dst = "" },
			"Dst of 5":               func(f *api.Frame) { f.Dst = f.Dst[:5] },
			"Dst of 7":               func(f *api.Frame) { f.Dst += "\x00" },
			"a length too small":     func(f *api.Frame) { f.Type-- },
			"a length too great":     func(f *api.Frame) { f.Type++ },
			"length 1535":            func(f *api.Frame) { f.Type = 1535 },
			"Type -1":                func(f *api.Frame) { f.Type = -1 },
			"Type 65536":             func(f *api.Frame) { f.Type = 65536 },
			"the tag's type":         func(f *api.Frame) { f.Type = 0x8100 },
			"1501 bytes":             func(f *api.Frame) { f.Payload += fill(1501 - len(f.Payload)); f.Type = 1501 },
			"1501 bytes of a type":   func(f *api.Frame) { f.Payload += fill(1501 - len(f.Payload)); f.Type = 2048 },
			"Priority without a tag": func(f *api.Frame) { f.Priority = 1 },
			"Vlan without a tag":     func(f *api.Frame) { f.Vlan = 1 },
			"Priority 8":             func(f *api.Frame) { f.Tagged, f.Priority = true, 8 },
			"Vlan 4095":              func(f *api.Frame) { f.Tagged, f.Vlan = true, 4095 },
			"Vlan -1":                func(f *api.Frame) { f.Tagged, f.Vlan = true, -1 },
		} {
			f := right
			do(&f)
			checkKind(t, name, f, 0, "")
		}
	}
	checkKind(t, "zero", api.Frame{}, 0, "")
	checkKind(t, "a head's group alone", api.Frame{Dst: ieeeGroup}, 0, "")
}

// P2.1
func TestSnap(t *testing.T) {
	for _, c := range []struct {
		org      string
		protocol int
		inner    string
		want     string
	}{
		{"abc", 0, "inner", "\xaa\xaa\x03abc\x00\x00inner"},
		{"abc", 1, "", "\xaa\xaa\x03abc\x00\x01"},
		{"abc", 255, "i", "\xaa\xaa\x03abc\x00\xffi"},
		{"abc", 256, "i", "\xaa\xaa\x03abc\x01\x00i"},
		{"abc", 0x1234, "i", "\xaa\xaa\x03abc\x12\x34i"},
		{"abc", 65534, "i", "\xaa\xaa\x03abc\xff\xfei"},
		{"\x00\xff\x80", 65535, "\x00\xff", "\xaa\xaa\x03\x00\xff\x80\xff\xff\x00\xff"},
		{"\x00\x00\x0c", 0x010b, "inner", sstpBytes + "inner"},
		{"abc", 7, fill(1492), "\xaa\xaa\x03abc\x00\x07" + fill(1492)},
		{"abc", 7, fill(1493), "\xaa\xaa\x03abc\x00\x07" + fill(1493)},
		{"abc", 7, fill(70000), "\xaa\xaa\x03abc\x00\x07" + fill(70000)},
	} {
		if s, e := Snap(c.org, c.protocol, c.inner); s != c.want || e != api.OK {
			t.Errorf("%q %d: %.40x %v", c.org, c.protocol, s, e)
		}
	}
}

// P2.1: of a wrong organisation ErrForm, also where the protocol is out of its range.
func TestSnapOfWrongInputs(t *testing.T) {
	for _, org := range []string{"", "a", "ab", "abcd", fill(300), "äb"[:2], "äbc"} {
		for _, protocol := range []int{-1, 0, 7, 65535, 65536} {
			if s, e := Snap(org, protocol, "inner"); s != "" || e != api.ErrForm {
				t.Errorf("%q %d: %x %v", org, protocol, s, e)
			}
		}
	}
	for _, protocol := range []int{-1, -2, -65536, 65536, 65537, 1 << 32, math.MinInt, math.MaxInt} {
		if s, e := Snap("abc", protocol, "inner"); s != "" || e != api.ErrRange {
			t.Errorf("%d: %x %v", protocol, s, e)
		}
	}
}

// makers are Ieee and Sstp, with what the document says of them.
var makers = []struct {
	name        string
	make        func(src, inner string) (api.Frame, api.Errno)
	group, head string
	kind        int
}{
	{"Ieee", Ieee, ieeeGroup, bpduBytes, 1},
	{"Sstp", Sstp, sstpGroup, sstpBytes, 2},
}

// P2.2
func TestFramesThatAreMade(t *testing.T) {
	for _, m := range makers {
		room := 1500 - len(m.head)
		for _, inner := range []string{"", "i", "inner", "\x00", m.head, fill(room - 1), fill(room)} {
			want := api.Frame{Dst: m.group, Src: host, Type: len(m.head) + len(inner), Payload: m.head + inner}
			if f, e := m.make(host, inner); f != want || e != api.OK || !frame.Right(f) {
				t.Errorf("%s of %d bytes: %v %v", m.name, len(inner), f, e)
			}
		}
	}
	if f, e := Ieee(host, ""); f.Type != 3 || e != api.OK {
		t.Errorf("the example: %v %v", f, e)
	}
}

// P2.2: ErrLong from the 1501st byte on, whatever src is; else ErrForm of a wrong src.
func TestFramesThatCannotBeMade(t *testing.T) {
	wrong := []string{"", host[:5], host + "\x00", groupSrc, all, ieeeGroup, fill(2000)}
	for _, m := range makers {
		room := 1500 - len(m.head)
		for _, src := range append([]string{host}, wrong...) {
			for _, n := range []int{room + 1, room + 2, 1500, 1535, 1536, 65536} {
				if f, e := m.make(src, fill(n)); f != (api.Frame{}) || e != api.ErrLong {
					t.Errorf("%s of %x, %d bytes: %v %v", m.name, src, n, f, e)
				}
			}
		}
		for _, src := range wrong {
			for _, n := range []int{0, 1, room - 1, room} {
				if f, e := m.make(src, fill(n)); f != (api.Frame{}) || e != api.ErrForm {
					t.Errorf("%s of %x, %d bytes: %v %v", m.name, src, n, f, e)
				}
			}
		}
	}
}

func anyText(r *rand.Rand, n int) string {
	b := make([]byte, n)
	r.Read(b)
	return string(b)
}

// P2.3: what was made is of its kind, and has its inner bytes, also behind a way through bytes.
func TestMadeIsOfItsKind(t *testing.T) {
	r := rand.New(rand.NewSource(3))
	for range 2000 {
		for _, m := range makers {
			src, inner := anyText(r, api.MacLen), anyText(r, r.Intn(1501-len(m.head)))
			f, e := m.make(src, inner)
			if e != api.OK {
				if e != api.ErrForm || !frame.Group(src) {
					t.Fatalf("%s of %x: %v", m.name, src, e)
				}
				continue
			}
			tagged, e := frame.With(f, r.Intn(api.MaxVlan+1))
			if e != api.OK {
				t.Fatalf("%s: no tag: %v", m.name, e)
			}
			tagged.Priority = r.Intn(8)
			for _, g := range []api.Frame{f, tagged} {
				checkKind(t, m.name, g, m.kind, inner)
				s, _ := frame.Print(g)
				h, e := frame.Parse(s)
				if e != api.OK {
					t.Fatalf("%s: not parsed: %v", m.name, e)
				}
				checkKind(t, m.name+" parsed", h, m.kind, inner)
			}
		}
	}
}

// P2.3: what has a kind and inner bytes is what is made of them, but for its tag.
func TestReadIsMadeAgain(t *testing.T) {
	for _, c := range kinds {
		if c.kind != 1 && c.kind != 2 {
			continue
		}
		for _, f := range withTags(c.frame) {
			inner, _ := Inner(f)
			plain, _ := frame.Without(f)
			if g, e := makers[Kind(f)-1].make(f.Src, inner); g != plain || e != api.OK {
				t.Errorf("%s: %v %v", c.name, g, e)
			}
		}
	}
}
