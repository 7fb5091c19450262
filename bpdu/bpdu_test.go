package bpdu

import (
	"math"
	"math/rand"
	"strings"
	"testing"

	"treebridge/api"
)

const (
	maxWord = math.MaxUint64
	// numbers are those of numbered, behind the flags.
	numbers = "\x80\x01\x02\x03\x04\x05\x06\x07" + "\x11\x12\x13\x14" + "\x90\xa1\xa2\xa3\xa4\xa5\xa6\xa7" + "\x81\x02" +
		"\x01\x0a" + "\x14\x0b" + "\x02\x0c" + "\x0f\x0d"
	zeroes   = "\x00\x00\x00\x00\x00\x00\x00\x00"
	ones     = "\xff\xff\xff\xff\xff\xff\xff\xff"
	allZero  = zeroes + zeroes + zeroes + "\x00\x00\x00\x00\x00\x00"
	allOne   = ones + ones + ones + "\xff\xff\xff\xff\xff\xff"
	config   = "\x00\x00\x00\x00"
	notice   = "\x00\x00\x00\x80"
	rapid    = "\x00\x00\x02\x02"
	behindIt = "\x00\xff what stands behind"
)

// numbered has another value in each byte, so that none can be taken for another.
func numbered(kind, flags int) Bpdu {
	return Bpdu{
		Kind: kind, Flags: flags,
		Vector: api.Vector{Root: 0x8001020304050607, Cost: 0x11121314, Bridge: 0x90a1a2a3a4a5a6a7, Port: 0x8102},
		Age:    0x010a, Max: 0x140b, Hello: 0x020c, Delay: 0x0f0d,
	}
}

// greatest has the greatest of each number.
func greatest(kind int) Bpdu {
	return Bpdu{
		Kind: kind, Flags: 255,
		Vector: api.Vector{Root: maxWord, Cost: 1<<32 - 1, Bridge: maxWord, Port: 65535},
		Age:    65535, Max: 65535, Hello: 65535, Delay: 65535,
	}
}

// printed are right BPDUs and their bytes; heard is what hearing these answers, beside what was printed if it is OK.
var printed = []struct {
	name  string
	bpdu  Bpdu
	bytes string
	heard api.Errno
}{
	{"a notice", Bpdu{Kind: 2}, notice, api.OK},
	{"a configuration", numbered(1, 0x81), config + "\x81" + numbers, api.OK},
	{"a configuration without flags", numbered(1, 0), config + "\x00" + numbers, api.OK},
	{"a configuration of all flags", numbered(1, 255), config + "\xff" + numbers, api.OK},
	{"a rapid one", numbered(3, 0x3c), rapid + "\x3c" + numbers + "\x00", api.OK},
	{"a rapid one without flags", numbered(3, 0), rapid + "\x00" + numbers + "\x00", api.OK},
	{"a rapid one of all flags", numbered(3, 255), rapid + "\xff" + numbers + "\x00", api.OK},
	{"a rapid one of zeroes", Bpdu{Kind: 3}, rapid + "\x00" + allZero + "\x00", api.OK},
	{"a rapid one of the greatest", greatest(3), rapid + "\xff" + allOne + "\x00", api.OK},
	{"a configuration of zeroes is too old", Bpdu{Kind: 1}, config + "\x00" + allZero, api.ErrRange},
	{"a configuration of the greatest is too old", greatest(1), config + "\xff" + allOne, api.ErrRange},
}

// P3.1
func TestRightBpdusArePrinted(t *testing.T) {
	for _, c := range printed {
		if !Right(c.bpdu) {
			t.Errorf("%s: not right", c.name)
		}
		if s, e := Print(c.bpdu); s != c.bytes || e != api.OK {
			t.Errorf("%s: %x %v", c.name, s, e)
		}
		if Size(c.bpdu.Kind) != len(c.bytes) {
			t.Errorf("%s: a size of %d", c.name, Size(c.bpdu.Kind))
		}
	}
}

// checkHeard asks what is heard of s: want, or, with an error, nothing else.
func checkHeard(t *testing.T, name, s string, want Bpdu, wantError api.Errno) {
	t.Helper()
	if wantError != api.OK {
		want = Bpdu{}
	}
	if b, e := Parse(s); b != want || e != wantError {
		t.Errorf("%s: %+v %v, want %+v %v", name, b, e, want, wantError)
	}
}

// P3.1, P3.2: cut anywhere, it is too short; whole, it is heard, whatever stands behind.
func TestPrintedIsHeard(t *testing.T) {
	for _, c := range printed {
		for n := range len(c.bytes) {
			checkHeard(t, c.name+", cut", c.bytes[:n], Bpdu{}, api.ErrShort)
		}
		for _, more := range []string{"", "\x00", "\x01", "\xff", behindIt, notice, strings.Repeat("\xff", 1500)} {
			checkHeard(t, c.name, c.bytes+more, c.bpdu, c.heard)
		}
	}
}

// parts are ways to put a number into a BPDU, with the greatest that it may be.
var parts = []struct {
	name     string
	put      func(b *Bpdu, n int)
	greatest int
}{
	{"Flags", func(b *Bpdu, n int) { b.Flags = n }, 255},
	{"Cost", func(b *Bpdu, n int) { b.Vector.Cost = uint64(n) }, 1<<32 - 1},
	{"Port", func(b *Bpdu, n int) { b.Vector.Port = uint64(n) }, 65535},
	{"Age", func(b *Bpdu, n int) { b.Age = n }, 65535},
	{"Max", func(b *Bpdu, n int) { b.Max = n }, 65535},
	{"Hello", func(b *Bpdu, n int) { b.Hello = n }, 65535},
	{"Delay", func(b *Bpdu, n int) { b.Delay = n }, 65535},
}

// checkRight asks whether b is right, and whether Print says the same.
func checkRight(t *testing.T, name string, b Bpdu, want bool) {
	t.Helper()
	if Right(b) != want {
		t.Errorf("%s: right %v", name, !want)
	}
	s, e := Print(b)
	if want && (len(s) != Size(b.Kind) || e != api.OK) || !want && (s != "" || e != api.ErrForm) {
		t.Errorf("%s: %x %v", name, s, e)
	}
}

// P3.1: each number at its edges and beyond, of the kinds that have numbers.
func TestEdgesOfNumbers(t *testing.T) {
	for _, kind := range []int{1, 3} {
		for _, p := range parts {
			for _, n := range []int{0, 1, p.greatest - 1, p.greatest} {
				b := numbered(kind, 5)
				p.put(&b, n)
				checkRight(t, p.name, b, true)
			}
			// Below 0, Cost and Port go round to numbers that are too great.
			for _, n := range []int{-1, -2, -256, -65536, p.greatest + 1, p.greatest + 2, 1 << 40, math.MinInt, math.MaxInt} {
				b := numbered(kind, 5)
				p.put(&b, n)
				checkRight(t, p.name, b, false)
			}
		}
		for _, n := range []uint64{0, 1, 1 << 63, maxWord - 1, maxWord} {
			b := numbered(kind, 5)
			b.Vector.Root = n
			checkRight(t, "Root", b, true)
			b = numbered(kind, 5)
			b.Vector.Bridge = n
			checkRight(t, "Bridge", b, true)
		}
	}
}

// P3.1: a notice has nothing else.
func TestNoticeHasNothingElse(t *testing.T) {
	checkRight(t, "a notice", Bpdu{Kind: 2}, true)
	for _, p := range parts {
		for _, n := range []int{1, -1, p.greatest, p.greatest + 1} {
			b := Bpdu{Kind: 2}
			p.put(&b, n)
			checkRight(t, "a notice with "+p.name, b, false)
		}
	}
	for _, n := range []uint64{1, maxWord} {
		checkRight(t, "a notice with Root", Bpdu{Kind: 2, Vector: api.Vector{Root: n}}, false)
		checkRight(t, "a notice with Bridge", Bpdu{Kind: 2, Vector: api.Vector{Bridge: n}}, false)
	}
	checkRight(t, "a notice with all", numbered(2, 5), false)
}

// P3.1
func TestKindsThatAreNone(t *testing.T) {
	for _, kind := range []int{0, 4, 5, -1, -2, -3, 128, 256, 257, 1<<32 + 1, math.MinInt, math.MaxInt} {
		checkRight(t, "nothing else", Bpdu{Kind: kind}, false)
		checkRight(t, "with numbers", numbered(kind, 5), false)
		if n := Size(kind); n != 0 {
			t.Errorf("kind %d: a size of %d", kind, n)
		}
	}
}

// P3.1
func TestSizes(t *testing.T) {
	for kind, want := range []int{0, 35, 4, 36, 0} {
		if n := Size(kind); n != want {
			t.Errorf("kind %d: %d", kind, n)
		}
	}
}

// P3.1: bits 2 and 3 alone count, of numbers too that are no flags.
func TestRole(t *testing.T) {
	for flags := -1024; flags < 1024; flags++ {
		want := 0
		if flags&4 != 0 {
			want++
		}
		if flags&8 != 0 {
			want += 2
		}
		if n := Role(flags); n != want {
			t.Errorf("%d: %d", flags, n)
		}
	}
	for flags, want := range map[int]int{
		0x04: 1, 0x08: 2, 0x0c: 3, 0xf3: 0, 0xff: 3, 0x10: 0,
		-1: 3, -5: 2, -9: 1, -13: 0, math.MinInt: 0, math.MinInt + 4: 1, math.MaxInt: 3, math.MaxInt - 4: 2,
	} {
		if n := Role(flags); n != want {
			t.Errorf("%d: %d", flags, n)
		}
	}
}

// P3.1: the first two bytes are asked ahead of the type and of what it needs, but behind the head's four.
func TestFirstTwoBytes(t *testing.T) {
	for _, c := range printed {
		for at := range 2 {
			for bit := range 8 {
				s := []byte(c.bytes)
				s[at] ^= 1 << bit
				for n := range len(s) {
					want := api.ErrForm
					if n < 4 {
						want = api.ErrShort
					}
					checkHeard(t, c.name, string(s[:n]), Bpdu{}, want)
				}
				checkHeard(t, c.name, string(s), Bpdu{}, api.ErrForm)
				checkHeard(t, c.name+", more", string(s)+behindIt, Bpdu{}, api.ErrForm)
			}
		}
	}
	checkHeard(t, "of no kind", "\x00\x01\x00\x01", Bpdu{}, api.ErrForm)
	checkHeard(t, "both", "\x01\x01\x02\x02"+"\x05"+numbers+"\x00", Bpdu{}, api.ErrForm)
}

// wantOf is what the document asks of bytes that begin 0, 0, version, kind and the flags 5, and have n in all of numbered's and of nothing behind.
func wantOf(version, kind, n int) (Bpdu, api.Errno) {
	need, b := 0, Bpdu{}
	switch {
	case n < 4:
		return b, api.ErrShort
	case kind == 0x80:
		need, b = 4, Bpdu{Kind: 2}
	case kind == 0:
		need, b = 35, numbered(1, 5)
	case kind == 2 && version >= 2:
		need, b = 36, numbered(3, 5)
	default:
		return b, api.ErrKind
	}
	if n < need {
		return b, api.ErrShort
	}
	return b, api.OK
}

// P3.1: each version with each type, and each length about those that count.
func TestEveryVersionAndType(t *testing.T) {
	for version := range 256 {
		for kind := range 256 {
			s := "\x00\x00" + string([]byte{byte(version), byte(kind)}) + "\x05" + numbers + "\x00" + behindIt
			for _, n := range []int{0, 1, 2, 3, 4, 5, 34, 35, 36, 37, len(s)} {
				want, e := wantOf(version, kind, n)
				if b, x := Parse(s[:n]); e == api.OK && b != want || e != api.OK && b != (Bpdu{}) || x != e {
					t.Fatalf("version %d, type %d, %d bytes: %+v %v, want %v", version, kind, n, b, x, e)
				}
			}
		}
	}
}

// P3.1: the edges that the chapter names, told one by one.
func TestTypesAndVersions(t *testing.T) {
	whole := "\x05" + numbers + "\x00"
	for _, c := range []struct {
		name, bytes string
		bpdu        Bpdu
		want        api.Errno
	}{
		{"type 1", "\x00\x00\x00\x01" + whole, Bpdu{}, api.ErrKind},
		{"type 1, version 2", "\x00\x00\x02\x01" + whole, Bpdu{}, api.ErrKind},
		{"type 1, four bytes", "\x00\x00\x00\x01", Bpdu{}, api.ErrKind},
		{"type 3", "\x00\x00\x03\x03" + whole, Bpdu{}, api.ErrKind},
		{"type 0x81", "\x00\x00\x00\x81" + whole, Bpdu{}, api.ErrKind},
		{"type 0x82", "\x00\x00\x02\x82" + whole, Bpdu{}, api.ErrKind},
		{"type 2, version 0", "\x00\x00\x00\x02" + whole, Bpdu{}, api.ErrKind},
		{"type 2, version 1", "\x00\x00\x01\x02" + whole, Bpdu{}, api.ErrKind},
		{"type 2, version 1, too short for a rapid one", "\x00\x00\x01\x02\x05", Bpdu{}, api.ErrKind},
		{"type 2, version 2", "\x00\x00\x02\x02" + whole, numbered(3, 5), api.OK},
		{"type 2, version 3", "\x00\x00\x03\x02" + whole, numbered(3, 5), api.OK},
		{"type 2, version 255", "\x00\x00\xff\x02" + whole, numbered(3, 5), api.OK},
		{"type 2, version 255, 35 bytes", ("\x00\x00\xff\x02" + whole)[:35], Bpdu{}, api.ErrShort},
		{"a configuration of version 2", "\x00\x00\x02\x00" + whole, numbered(1, 5), api.OK},
		{"a configuration of version 255, 35 bytes", ("\x00\x00\xff\x00" + whole)[:35], numbered(1, 5), api.OK},
		{"a configuration of version 255, 34 bytes", ("\x00\x00\xff\x00" + whole)[:34], Bpdu{}, api.ErrShort},
		{"a notice of version 2", "\x00\x00\x02\x80", Bpdu{Kind: 2}, api.OK},
		{"a notice of version 255, and more", "\x00\x00\xff\x80" + whole, Bpdu{Kind: 2}, api.OK},
		{"a rapid one's last byte", "\x00\x00\x02\x02\x05" + numbers + "\x01", numbered(3, 5), api.OK},
		{"a rapid one's last byte of ones", "\x00\x00\x02\x02\x05" + numbers + "\xff" + behindIt, numbered(3, 5), api.OK},
	} {
		checkHeard(t, c.name, c.bytes, c.bpdu, c.want)
	}
}

// withTimes is a BPDU's bytes with an Age and a Max.
func withTimes(head string, age, most int) string {
	times := string([]byte{byte(age >> 8), byte(age), byte(most >> 8), byte(most)})
	return head + "\x05" + numbers[:22] + times + numbers[26:] + "\x00"
}

// P3.1, P3.2: a configuration is too old from Max on; a rapid one never is.
func TestAges(t *testing.T) {
	for _, c := range []struct {
		age, most int
		heard     api.Errno
	}{
		{0, 0, api.ErrRange}, {0, 1, api.OK}, {1, 0, api.ErrRange},
		{5119, 5120, api.OK}, {5120, 5120, api.ErrRange}, {5121, 5120, api.ErrRange},
		{255, 256, api.OK}, {256, 255, api.ErrRange}, {0x0102, 0x0201, api.OK}, {0x0201, 0x0102, api.ErrRange},
		{32767, 32768, api.OK}, {32768, 32767, api.ErrRange},
		{65534, 65535, api.OK}, {65535, 65535, api.ErrRange}, {65535, 65534, api.ErrRange}, {0, 65535, api.OK}, {65535, 0, api.ErrRange},
	} {
		old := numbered(1, 5)
		old.Age, old.Max = c.age, c.most
		checkHeard(t, "a configuration", withTimes(config, c.age, c.most), old, c.heard)
		checkHeard(t, "a configuration of version 2", withTimes("\x00\x00\x02\x00", c.age, c.most), old, c.heard)
		checkRight(t, "a configuration", old, true)
		old.Kind = 3
		checkHeard(t, "a rapid one", withTimes(rapid, c.age, c.most), old, api.OK)
		checkRight(t, "a rapid one", old, true)
	}
	// Its length is asked ahead of its age.
	checkHeard(t, "too old and too short", withTimes(config, 5120, 5120)[:34], Bpdu{}, api.ErrShort)
}

// anyBpdu is now and then wrong by a kind or a number.
func anyBpdu(r *rand.Rand) Bpdu {
	b := Bpdu{Kind: r.Intn(5), Flags: r.Intn(256)}
	b.Vector = api.Vector{Root: r.Uint64(), Cost: uint64(r.Uint32()), Bridge: r.Uint64(), Port: uint64(r.Intn(65536))}
	b.Age, b.Max, b.Hello, b.Delay = r.Intn(65536), r.Intn(65536), r.Intn(65536), r.Intn(65536)
	switch r.Intn(8) {
	case 0:
		b = Bpdu{Kind: b.Kind}
	case 1:
		p := parts[r.Intn(len(parts))]
		p.put(&b, p.greatest+1)
	}
	return b
}

func anyText(r *rand.Rand, n int) string {
	b := make([]byte, n)
	r.Read(b)
	return string(b)
}

// P3.2: what was printed is heard, whatever stands behind it, but for a configuration that is too old.
func TestAnyPrintedIsHeard(t *testing.T) {
	r := rand.New(rand.NewSource(4))
	heard := [4]int{}
	for range 20000 {
		b := anyBpdu(r)
		s, e := Print(b)
		if Right(b) != (e == api.OK) {
			t.Fatalf("%+v: Right says otherwise than %v", b, e)
		}
		if e != api.OK {
			continue
		}
		want := api.OK
		if b.Kind == 1 && b.Age >= b.Max {
			want = api.ErrRange
		} else {
			heard[b.Kind]++
		}
		checkHeard(t, "alone", s, b, want)
		checkHeard(t, "with more behind", s+anyText(r, r.Intn(60)), b, want)
	}
	for kind := 1; kind <= 3; kind++ {
		if heard[kind] < 100 {
			t.Errorf("only %d of kind %d", heard[kind], kind)
		}
	}
}

// anyBytes begin as a BPDU's more often than not.
func anyBytes(r *rand.Rand) string {
	heads := []string{config, notice, rapid, "\x00\x00\x03\x02", "\x00\x00\x01\x02", "\x00\x00\x07\x00", ""}
	return heads[r.Intn(len(heads))] + anyText(r, r.Intn(40))
}

// P3.2: what is heard is right, and printed it is heard as the same.
func TestHeardIsPrinted(t *testing.T) {
	r := rand.New(rand.NewSource(5))
	heard := 0
	for range 50000 {
		s := anyBytes(r)
		b, e := Parse(s)
		if e != api.OK {
			if b != (Bpdu{}) {
				t.Fatalf("%x: %+v beside %v", s, b, e)
			}
			continue
		}
		heard++
		x, e := Print(b)
		if e != api.OK || len(x) > len(s) || x[3:min(35, len(x))] != s[3:min(35, len(x))] {
			t.Fatalf("%x: %x %v", s, x, e)
		}
		checkHeard(t, "printed again", x, b, api.OK)
	}
	if heard < 1000 {
		t.Errorf("only %d heard", heard)
	}
}
