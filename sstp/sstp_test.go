package sstp

import (
	"math"
	"math/rand"
	"strings"
	"testing"

	"treebridge/api"
	"treebridge/bpdu"
)

const (
	// numbers are those of numbered, behind the flags.
	numbers = "\x80\x01\x02\x03\x04\x05\x06\x07" + "\x11\x12\x13\x14" + "\x90\xa1\xa2\xa3\xa4\xa5\xa6\xa7" + "\x81\x02" +
		"\x01\x0a" + "\x14\x0b" + "\x02\x0c" + "\x0f\x0d"
	config = "\x00\x00\x00\x00" + "\x81" + numbers
	rapid  = "\x00\x00\x02\x02" + "\x3c" + numbers + "\x00"
	notice = "\x00\x00\x00\x80"
	// tlv stands between a BPDU and its VLAN.
	tlv  = "\x00\x00\x00\x00\x02"
	tail = tlv + "\x01\x23"
)

// numbered has another value in each byte, so that none can be taken for another.
func numbered(kind, flags int) bpdu.Bpdu {
	return bpdu.Bpdu{
		Kind: kind, Flags: flags,
		Vector: api.Vector{Root: 0x8001020304050607, Cost: 0x11121314, Bridge: 0x90a1a2a3a4a5a6a7, Port: 0x8102},
		Age:    0x010a, Max: 0x140b, Hello: 0x020c, Delay: 0x0f0d,
	}
}

// kinds are BPDUs that SSTP carries, and their bytes.
var kinds = []struct {
	name  string
	bpdu  bpdu.Bpdu
	bytes string
	size  int // with what stands behind
}{
	{"a configuration", numbered(1, 0x81), config, 42},
	{"a rapid one", numbered(3, 0x3c), rapid, 43},
}

// vlans are right ones, and their bytes.
var vlans = []struct {
	vlan  int
	bytes string
}{
	{1, "\x00\x01"}, {2, "\x00\x02"}, {255, "\x00\xff"}, {256, "\x01\x00"}, {0x0123, "\x01\x23"}, {4093, "\x0f\xfd"}, {4094, "\x0f\xfe"},
}

// wrongVlans are out of range, right ones but for what two bytes have no room for among them.
var wrongVlans = []int{
	0, -1, -2, -4094, -65535, -65536, 4095, 4096, 32768, 65535, 65536, 65537, 65536 + 4094, 1<<32 + 1, math.MinInt, math.MinInt + 1, math.MaxInt,
}

// wrongBpdus are those that have no SSTP's bytes.
var wrongBpdus = []struct {
	name string
	bpdu bpdu.Bpdu
}{
	{"nothing", bpdu.Bpdu{}},
	{"kind 0", numbered(0, 5)},
	{"kind 4", numbered(4, 5)},
	{"kind -1", numbered(-1, 5)},
	{"kind 257", numbered(257, 5)},
	{"a notice", bpdu.Bpdu{Kind: 2}},
	{"a notice with numbers", numbered(2, 5)},
	{"a configuration's flags below 0", numbered(1, -1)},
	{"a configuration's flags of 256", numbered(1, 256)},
	{"a rapid one's flags below 0", numbered(3, -1)},
	{"a rapid one's flags of 256", numbered(3, 256)},
	{"a cost of 2^32", bpdu.Bpdu{Kind: 3, Vector: api.Vector{Cost: 1 << 32}}},
	{"a port of 65536", bpdu.Bpdu{Kind: 3, Vector: api.Vector{Port: 65536}}},
	{"an age below 0", bpdu.Bpdu{Kind: 1, Age: -1, Max: 1}},
	{"a maximum of 65536", bpdu.Bpdu{Kind: 1, Max: 65536}},
	{"a hello time of 65536", bpdu.Bpdu{Kind: 3, Hello: 65536}},
	{"a delay below 0", bpdu.Bpdu{Kind: 3, Delay: -1}},
}

// checkPrinted asks what is printed: want, or, with an error, nothing.
func checkPrinted(t *testing.T, name string, b bpdu.Bpdu, vlan int, want string, wantError api.Errno) {
	t.Helper()
	if s, e := Print(b, vlan); s != want || e != wantError {
		t.Errorf("%s, VLAN %d: %x %v, want %x %v", name, vlan, s, e, want, wantError)
	}
}

// checkHeard asks what is heard of s.
func checkHeard(t *testing.T, name, s string, want bpdu.Bpdu, wantVlan int) {
	t.Helper()
	if b, v, e := Parse(s); b != want || v != wantVlan || e != api.OK {
		t.Errorf("%s: %+v %d %v, want %+v %d", name, b, v, e, want, wantVlan)
	}
}

// checkError asks for an error, and for nothing beside it.
func checkError(t *testing.T, name, s string, want api.Errno) {
	t.Helper()
	if b, v, e := Parse(s); b != (bpdu.Bpdu{}) || v != 0 || e != want {
		t.Errorf("%s: %+v %d %v, want %v", name, b, v, e, want)
	}
}

// P4.1
func TestBytesOfEachKindAndVlan(t *testing.T) {
	for _, k := range kinds {
		for _, v := range vlans {
			want := k.bytes + tlv + v.bytes
			if len(want) != k.size {
				t.Fatalf("%s: %d bytes", k.name, len(want))
			}
			checkPrinted(t, k.name, k.bpdu, v.vlan, want, api.OK)
			checkHeard(t, k.name, want, k.bpdu, v.vlan)
		}
	}
}

// P4.1
func TestExampleOfTheDocument(t *testing.T) {
	if s, e := Print(bpdu.Bpdu{Kind: 3}, 1); len(s) != 43 || e != api.OK {
		t.Errorf("%x %v", s, e)
	}
}

// P4.1: the VLAN is out of range where the BPDU is right.
func TestPrintOfWrongVlans(t *testing.T) {
	for _, k := range kinds {
		for _, vlan := range wrongVlans {
			checkPrinted(t, k.name, k.bpdu, vlan, "", api.ErrRange)
		}
	}
}

// P4.1: the BPDU is asked ahead of the VLAN.
func TestPrintOfWrongBpdus(t *testing.T) {
	for _, w := range wrongBpdus {
		for _, v := range vlans {
			checkPrinted(t, w.name, w.bpdu, v.vlan, "", api.ErrForm)
		}
		for _, vlan := range wrongVlans {
			checkPrinted(t, w.name, w.bpdu, vlan, "", api.ErrForm)
		}
	}
}

// P4.1: cut anywhere, within the BPDU or behind it, it is too short.
func TestCutIsTooShort(t *testing.T) {
	for _, k := range kinds {
		s := k.bytes + tail
		for n := range len(s) {
			checkError(t, k.name, s[:n], api.ErrShort)
		}
		checkHeard(t, k.name, s, k.bpdu, 0x0123)
	}
}

// P4.1: too few bytes behind the BPDU's are asked ahead of what they are.
func TestShortAheadOfForm(t *testing.T) {
	for _, k := range kinds {
		for n := range 7 {
			for _, fill := range []string{"\x00", "\x01", "\xff"} {
				checkError(t, k.name, k.bytes+strings.Repeat(fill, n), api.ErrShort)
			}
		}
		checkError(t, k.name+", zeroes", k.bytes+strings.Repeat("\x00", 7), api.ErrForm)
		checkError(t, k.name+", ones", k.bytes+strings.Repeat("\xff", 7), api.ErrForm)
	}
}

// P4.1: each of the five bytes, whatever else it is, and ahead of the VLAN.
func TestFiveBytesBehind(t *testing.T) {
	for _, k := range kinds {
		for at := range len(tlv) {
			for other := range 256 {
				if byte(other) == tlv[at] {
					continue
				}
				begin := k.bytes + tlv[:at] + string([]byte{byte(other)}) + tlv[at+1:]
				for _, end := range []string{"\x00\x01", "\x00\x00", "\x0f\xff", "\xff\xff", "\x00\x01 and more"} {
					checkError(t, k.name, begin+end, api.ErrForm)
				}
			}
		}
	}
}

// P4.1: each VLAN that two bytes can tell.
func TestEveryVlanHeard(t *testing.T) {
	for _, k := range kinds {
		for vlan := range 65536 {
			s := k.bytes + tlv + string([]byte{byte(vlan >> 8), byte(vlan)})
			if vlan >= 1 && vlan <= 4094 {
				checkHeard(t, k.name, s, k.bpdu, vlan)
				checkPrinted(t, k.name, k.bpdu, vlan, s, api.OK)
			} else {
				checkError(t, k.name, s, api.ErrRange)
				checkError(t, k.name+", more", s+"\x00\x01", api.ErrRange)
			}
		}
	}
}

// P4.1: layer 3's errors, ahead of all that can be wrong behind the BPDU.
func TestErrorsOfLayer3(t *testing.T) {
	body := "\x05" + numbers
	old := "\x05" + numbers[:22] + "\x14\x0b" + "\x14\x0b" + numbers[26:]
	for _, c := range []struct {
		name, bytes string
		want        api.Errno
	}{
		{"nothing", "", api.ErrShort},
		{"three bytes", "\x00\x00\x00", api.ErrShort},
		{"three bytes, the first another", "\x01\x00\x00", api.ErrShort},
		{"the first byte, four bytes", "\x01\x00\x00\x00", api.ErrForm},
		{"the second byte, four bytes", "\x00\x01\x00\x00", api.ErrForm},
		{"the first byte of a notice", "\x01\x00\x00\x80", api.ErrForm},
		{"the first byte of no kind", "\xff\x00\x00\x01", api.ErrForm},
		{"type 1, four bytes", "\x00\x00\x00\x01", api.ErrKind},
		{"type 2 of version 1, four bytes", "\x00\x00\x01\x02", api.ErrKind},
		{"a configuration of four bytes", "\x00\x00\x00\x00", api.ErrShort},
		{"a configuration of 34 bytes", config[:34], api.ErrShort},
		{"a rapid one of four bytes", "\x00\x00\x02\x02", api.ErrShort},
		{"a rapid one of 35 bytes", rapid[:35], api.ErrShort},
	} {
		checkError(t, c.name, c.bytes, c.want)
	}
	for _, c := range []struct {
		name, bytes string
		want        api.Errno
	}{
		{"the first byte", "\x01\x00\x00\x00" + body, api.ErrForm},
		{"the second byte", "\x00\x80\x02\x02" + body + "\x00", api.ErrForm},
		{"the second byte of a notice", "\x00\x01\x00\x80", api.ErrForm},
		{"the second byte of one too old", "\x00\x01\x00\x00" + old, api.ErrForm},
		{"type 1", "\x00\x00\x00\x01" + body, api.ErrKind},
		{"type 0x81", "\x00\x00\x00\x81" + body, api.ErrKind},
		{"type 2 of version 0", "\x00\x00\x00\x02" + body + "\x00", api.ErrKind},
		{"type 2 of version 1", "\x00\x00\x01\x02" + body + "\x00", api.ErrKind},
		{"a configuration too old", "\x00\x00\x00\x00" + old, api.ErrRange},
		{"a configuration of version 2 too old", "\x00\x00\x02\x00" + old, api.ErrRange},
	} {
		for _, behind := range []string{"", "\x00", tlv, tlv + "\x00", tail, tail + "more", tlv + "\x00\x00", tlv + "\xff\xff", strings.Repeat("\xff", 7)} {
			checkError(t, c.name, c.bytes+behind, c.want)
		}
	}
}

// P4.1: a notice is of no kind here, whatever stands behind it.
func TestNoticeIsNotHeard(t *testing.T) {
	for _, head := range []string{notice, "\x00\x00\x02\x80", "\x00\x00\xff\x80"} {
		for _, behind := range []string{"", "\x00", tlv, tlv + "\x00", tail, tail + "more", tlv + "\x00\x00", tlv + "\xff\xff", strings.Repeat("\xff", 7), numbers + tail} {
			checkError(t, "a notice", head+behind, api.ErrKind)
		}
	}
}

// P4.1: a configuration whose Age is Max or more is too old; a rapid one never is.
func TestAges(t *testing.T) {
	for _, c := range []struct {
		age, most int
		heard     api.Errno
	}{
		{0, 0, api.ErrRange}, {0, 1, api.OK}, {1, 0, api.ErrRange}, {5119, 5120, api.OK}, {5120, 5120, api.ErrRange}, {5121, 5120, api.ErrRange},
		{65534, 65535, api.OK}, {65535, 65535, api.ErrRange},
	} {
		for _, kind := range []int{1, 3} {
			b := numbered(kind, 5)
			b.Age, b.Max = c.age, c.most
			s, e := Print(b, 7)
			if e != api.OK {
				t.Fatalf("kind %d, %d of %d: %v", kind, c.age, c.most, e)
			}
			if kind == 1 && c.heard != api.OK {
				checkError(t, "too old", s, c.heard)
			} else {
				checkHeard(t, "young enough", s, b, 7)
			}
		}
	}
}

// P4.1: what layer 3 passes over is passed over: versions, and a rapid one's last byte, which isn't the one behind it.
func TestWhatLayer3PassesOver(t *testing.T) {
	for _, last := range []string{"\x00", "\x01", "\x02", "\xff"} {
		for _, version := range []string{"\x02", "\x03", "\x04", "\xff"} {
			s := "\x00\x00" + version + "\x02" + "\x3c" + numbers + last
			checkHeard(t, "a rapid one", s+tail, numbered(3, 0x3c), 0x0123)
			checkError(t, "a rapid one without the byte behind it", s+tail[1:], api.ErrShort)
			checkError(t, "a rapid one without the byte behind it, and more", s+tail[1:]+"\x00", api.ErrForm)
		}
	}
	for _, version := range []string{"\x00", "\x01", "\x02", "\xff"} {
		s := "\x00\x00" + version + "\x00" + "\x81" + numbers
		checkHeard(t, "a configuration", s+tail, numbered(1, 0x81), 0x0123)
		// A rapid one's last byte isn't a configuration's.
		checkError(t, "a configuration with a byte more", s+"\x00"+tail, api.ErrForm)
	}
}

// P4.2: whatever stands behind, be it bytes that tell another VLAN.
func TestWhatStandsBehindIsPassedOver(t *testing.T) {
	for _, k := range kinds {
		for _, v := range vlans {
			s, _ := Print(k.bpdu, v.vlan)
			for _, more := range []string{"", "\x00", "\x01", "\xff", tail, tlv[1:] + "\x00\x05", notice, s, strings.Repeat("\x00", 1500), strings.Repeat("\xff", 1500)} {
				checkHeard(t, k.name, s+more, k.bpdu, v.vlan)
			}
		}
	}
}

func anyText(r *rand.Rand, n int) string {
	b := make([]byte, n)
	r.Read(b)
	return string(b)
}

func anyBpdu(r *rand.Rand) bpdu.Bpdu {
	b := bpdu.Bpdu{Kind: r.Intn(5), Flags: r.Intn(258) - 1}
	b.Vector = api.Vector{Root: r.Uint64(), Cost: uint64(r.Uint32()), Bridge: r.Uint64(), Port: uint64(r.Intn(65536))}
	b.Age, b.Max, b.Hello, b.Delay = r.Intn(65536), r.Intn(65536), r.Intn(65536), r.Intn(65536)
	if r.Intn(8) == 0 {
		b = bpdu.Bpdu{Kind: b.Kind}
	}
	return b
}

// wantPrinted is what the document asks of Print but for the bytes.
func wantPrinted(b bpdu.Bpdu, vlan int) api.Errno {
	switch {
	case !bpdu.Right(b) || b.Kind == 2:
		return api.ErrForm
	case vlan < 1 || vlan > 4094:
		return api.ErrRange
	}
	return api.OK
}

// P4.2: what was printed is heard, whatever stands behind it, but for a configuration that is too old.
func TestAnyPrintedIsHeard(t *testing.T) {
	r := rand.New(rand.NewSource(6))
	heard, tooOld := [4]int{}, 0
	for range 20000 {
		b, vlan := anyBpdu(r), r.Intn(4400)-150
		s, e := Print(b, vlan)
		if e != wantPrinted(b, vlan) || e != api.OK && s != "" {
			t.Fatalf("%+v, VLAN %d: %x %v", b, vlan, s, e)
		}
		if e != api.OK {
			continue
		}
		more := anyText(r, r.Intn(60))
		if b.Kind == 1 && b.Age >= b.Max {
			tooOld++
			checkError(t, "too old", s+more, api.ErrRange)
			continue
		}
		heard[b.Kind]++
		checkHeard(t, "alone", s, b, vlan)
		checkHeard(t, "with more behind", s+more, b, vlan)
	}
	if heard[1] < 100 || heard[3] < 100 || tooOld < 100 {
		t.Errorf("only %v heard, %d too old", heard, tooOld)
	}
}

// anyBytes are SSTP's with a few bytes that are others, cut now and then.
func anyBytes(r *rand.Rand) string {
	s := []byte([]string{config, rapid, notice}[r.Intn(3)] + tail + anyText(r, r.Intn(4)))
	for range r.Intn(3) {
		s[r.Intn(len(s))] = byte(r.Intn(5))
	}
	if r.Intn(4) == 0 {
		s = s[:r.Intn(len(s)+1)]
	}
	return string(s)
}

// wantHeard is what the document asks of Parse, told by layer 3's.
func wantHeard(s string) (bpdu.Bpdu, int, api.Errno) {
	b, e := bpdu.Parse(s)
	if e != api.OK {
		return bpdu.Bpdu{}, 0, e
	}
	if b.Kind == 2 {
		return bpdu.Bpdu{}, 0, api.ErrKind
	}
	rest := s[map[int]int{1: 35, 3: 36}[b.Kind]:]
	if len(rest) < 7 {
		return bpdu.Bpdu{}, 0, api.ErrShort
	}
	if !strings.HasPrefix(rest, tlv) {
		return bpdu.Bpdu{}, 0, api.ErrForm
	}
	vlan := int(rest[5])*256 + int(rest[6])
	if vlan == 0 || vlan > 4094 {
		return bpdu.Bpdu{}, 0, api.ErrRange
	}
	return b, vlan, api.OK
}

// P4.1: several faults at once, in any mix.
func TestAnyBytes(t *testing.T) {
	r := rand.New(rand.NewSource(7))
	seen := map[api.Errno]int{}
	for range 100000 {
		s := anyBytes(r)
		want, wantVlan, wantError := wantHeard(s)
		seen[wantError]++
		if b, v, e := Parse(s); b != want || v != wantVlan || e != wantError {
			t.Fatalf("%x: %+v %d %v, want %+v %d %v", s, b, v, e, want, wantVlan, wantError)
		}
	}
	for _, e := range []api.Errno{api.OK, api.ErrRange, api.ErrForm, api.ErrShort, api.ErrKind} {
		if seen[e] < 20 {
			t.Errorf("only %d of %v", seen[e], e)
		}
	}
	for range 10000 {
		s := anyText(r, r.Intn(50))
		if b, v, e := Parse(s); e != api.OK && (b != (bpdu.Bpdu{}) || v != 0) {
			t.Fatalf("%x: %+v %d beside %v", s, b, v, e)
		}
	}
}
