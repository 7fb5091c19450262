package vlanport

import (
	"math"
	"math/rand"
	"slices"
	"strings"
	"testing"

	"treebridge/api"
)

const (
	some  = "\x02\x00\x00\x00\x00\x01"
	other = "\x02\x00\x00\x00\x00\x02"
	group = "\x01\x00\x5e\x00\x00\x01"
	all   = "\xff\xff\xff\xff\xff\xff"
)

// far are numbers far from a VLAN's, those among them that a narrower number would take for one.
var far = []int{
	-2, -4094, -4095, -4096, -65535, -65536, -65537, -1<<16 + 1, -1<<32 + 1, -1 << 60, math.MinInt, math.MinInt + 1, math.MinInt + 2,
	4096, 4097, 4098, 8191, 8192, 32768, 65535, 65536, 65537, 65538, 1<<16 + 4094, 1 << 31, 1<<32 - 1, 1 << 32, 1<<32 + 1, 1<<32 + 2, 1 << 60, math.MaxInt - 1, math.MaxInt,
}

// noVlans are out of range.
var noVlans = append([]int{-1, 0, 4095}, far...)

// count answers n VLANs, rising from first by step.
func count(n, first, step int) []int {
	var l []int
	for at := range n {
		l = append(l, first+at*step)
	}
	return l
}

func access(native int) Port { return Port{Native: native} }

func trunk(native int, allowed ...int) Port {
	return Port{Trunk: true, Native: native, Allowed: allowed}
}

func equal(p, q Port) bool {
	return p.Trunk == q.Trunk && p.Native == q.Native && slices.Equal(p.Allowed, q.Allowed)
}

// texts are right set-ups, and their texts, told by hand.
var texts = []struct {
	name string
	port Port
	text string
}{
	{"access 1", access(1), "A\x00\x01"},
	{"access 2", access(2), "A\x00\x02"},
	{"access 255", access(255), "A\x00\xff"},
	{"access 256", access(256), "A\x01\x00"},
	{"access 4093", access(4093), "A\x0f\xfd"},
	{"access 4094", access(4094), "A\x0f\xfe"},
	{"access, empty", Port{Native: 0x123, Allowed: []int{}}, "A\x01\x23"},
	{"access, empty with room", Port{Native: 0x123, Allowed: []int{5, 0}[:0]}, "A\x01\x23"},
	{"trunk, nil", trunk(1), "T\x00\x01\x00"},
	{"trunk, empty", Port{Trunk: true, Native: 4094, Allowed: []int{}}, "T\x0f\xfe\x00"},
	{"trunk, one, Native", trunk(1, 1), "T\x00\x01\x01\x00\x01"},
	{"trunk, one, another", trunk(1, 4094), "T\x00\x01\x01\x0f\xfe"},
	{"trunk, one, below Native", trunk(4094, 1), "T\x0f\xfe\x01\x00\x01"},
	{"trunk of the letters", trunk(0x141, 0x154, 0x254), "T\x01\x41\x02\x01\x54\x02\x54"},
	{"trunk, two", trunk(1, 1, 2), "T\x00\x01\x02\x00\x01\x00\x02"},
	{"trunk, the first and the last", trunk(2, 1, 4094), "T\x00\x02\x02\x00\x01\x0f\xfe"},
	{"trunk, over a byte", trunk(0x0abc, 0x00ff, 0x0100, 0x0abc), "T\x0a\xbc\x03\x00\xff\x01\x00\x0a\xbc"},
	{"trunk, 15", trunk(9, count(15, 1, 1)...), "T\x00\x09\x0f" + "\x00\x01\x00\x02\x00\x03\x00\x04\x00\x05\x00\x06\x00\x07\x00\x08\x00\x09\x00\x0a\x00\x0b\x00\x0c\x00\x0d\x00\x0e\x00\x0f"},
	{"trunk, 16", trunk(16, count(16, 1, 1)...), "T\x00\x10\x10" + "\x00\x01\x00\x02\x00\x03\x00\x04\x00\x05\x00\x06\x00\x07\x00\x08\x00\x09\x00\x0a\x00\x0b\x00\x0c\x00\x0d\x00\x0e\x00\x0f\x00\x10"},
	{"trunk, the last 16", trunk(1, count(16, 4079, 1)...), "T\x00\x01\x10" + "\x0f\xef\x0f\xf0\x0f\xf1\x0f\xf2\x0f\xf3\x0f\xf4\x0f\xf5\x0f\xf6\x0f\xf7\x0f\xf8\x0f\xf9\x0f\xfa\x0f\xfb\x0f\xfc\x0f\xfd\x0f\xfe"},
	{"trunk, 16 apart", trunk(256, count(16, 256, 255)...), "T\x01\x00\x10" + "\x01\x00\x01\xff\x02\xfe\x03\xfd\x04\xfc\x05\xfb\x06\xfa\x07\xf9\x08\xf8\x09\xf7\x0a\xf6\x0b\xf5\x0c\xf4\x0d\xf3\x0e\xf2\x0f\xf1"},
}

// wrongPorts are no set-ups.
func wrongPorts() []Port {
	ports := []Port{
		{},
		{Trunk: true},
		{Native: 1, Allowed: []int{1}},
		{Native: 1, Allowed: []int{2}},
		{Native: 1, Allowed: []int{0}},
		{Native: 1, Allowed: []int{-1}},
		{Native: 1, Allowed: []int{1, 2}},
		{Native: 1, Allowed: count(16, 1, 1)},
		{Native: 1, Allowed: count(17, 1, 1)},
		trunk(1, 1, 1),
		trunk(1, 4094, 4094),
		trunk(1, 2, 1),
		trunk(1, 4094, 1),
		trunk(1, 1, 2, 2),
		trunk(1, 1, 3, 2),
		trunk(1, 2, 3, 1),
		trunk(1, 1, 2, 1),
		trunk(1, 256, 255),
		trunk(1, 0, 1),
		trunk(1, 4094, 4095),
		trunk(1, count(17, 1, 1)...),
		trunk(1, count(17, 4078, 1)...),
		trunk(1, count(18, 1, 1)...),
		trunk(1, count(256, 1, 1)...),
		trunk(1, count(257, 1, 1)...),
		trunk(1, count(272, 1, 1)...),
		trunk(1, count(4094, 1, 1)...),
		trunk(1, make([]int, 16)...),
		trunk(1, make([]int, 17)...),
		trunk(1, make([]int, 1<<20)...),
		trunk(0, count(17, 1, 1)...),
	}
	for _, n := range noVlans {
		ports = append(ports, access(n), Port{Native: n, Allowed: []int{}}, Port{Native: n, Allowed: []int{1}},
			trunk(n), trunk(n, 1), trunk(n, n), trunk(n, count(16, 1, 1)...),
			trunk(1, n), trunk(1, 1, n), trunk(1, n, 2), trunk(1, 1, 2, n), trunk(1, 1, n, 3))
	}
	// Each place of 16 with a number that is no VLAN, that comes twice, or that falls.
	for at := range 16 {
		for _, n := range append([]int{100, 116, 99}, noVlans...) {
			allowed := count(16, 101, 1)
			allowed[at] = n
			if at == 0 && (n == 100 || n == 99) || at == 15 && n == 116 {
				continue
			}
			ports = append(ports, trunk(1, allowed...))
		}
	}
	return ports
}

// P6.1
func TestRightPorts(t *testing.T) {
	for _, c := range texts {
		if !Right(c.port) {
			t.Errorf("%s: not right", c.name)
		}
	}
	for _, p := range wrongPorts() {
		if Right(p) {
			t.Errorf("%.200v: right", p)
		}
	}
}

// P6.1: each number near to a VLAN's, as Native and as what is allowed.
func TestRightOfEveryNumber(t *testing.T) {
	for n := -70000; n <= 70000; n++ {
		want := n >= 1 && n <= 4094
		for name, p := range map[string]Port{
			"access": access(n), "trunk": trunk(n), "trunk of one": trunk(n, 7), "allowed": trunk(1, n), "allowed and Native": trunk(n, n),
		} {
			if Right(p) != want {
				t.Fatalf("%s, %d: %v", name, n, !want)
			}
		}
		if Right(Port{Native: n, Allowed: []int{n}}) {
			t.Fatalf("access with %d allowed: right", n)
		}
	}
}

// P6.1: any two rise, come twice, or fall.
func TestRightOfTwo(t *testing.T) {
	for a := -1; a < 12; a++ {
		for b := -1; b < 12; b++ {
			if want := a > 0 && b > a; Right(trunk(1, a, b)) != want {
				t.Errorf("%d %d: %v", a, b, !want)
			}
		}
	}
}

// P6.1: so many may be allowed, whatever Native is.
func TestRightOfSoMany(t *testing.T) {
	for n := range 300 {
		for _, native := range []int{1, 50, 4094} {
			if want := n <= 16; Right(trunk(native, count(n, 1, 1)...)) != want {
				t.Errorf("%d, native %d: %v", n, native, !want)
			}
		}
	}
}

// P6.1
func TestPrint(t *testing.T) {
	for _, c := range texts {
		if s, e := Print(c.port); s != c.text || e != api.OK {
			t.Errorf("%s: %x %v, want %x", c.name, s, e, c.text)
		}
	}
	for _, p := range wrongPorts() {
		if s, e := Print(p); s != "" || e != api.ErrForm {
			t.Errorf("%.200v: %.40x %v", p, s, e)
		}
	}
}

// P6.1: each VLAN has its two bytes, at each place.
func TestEveryVlanAtEachPlace(t *testing.T) {
	for vlan := 1; vlan <= 4094; vlan++ {
		two := string([]byte{byte(vlan / 256), byte(vlan % 256)})
		check := func(p Port, want string) {
			if s, e := Print(p); s != want || e != api.OK {
				t.Fatalf("%v: %x %v, want %x", p, s, e, want)
			}
			if q, e := Parse(want); !equal(p, q) || e != api.OK {
				t.Fatalf("%x: %v %v, want %v", want, q, e, p)
			}
		}
		check(access(vlan), "A"+two)
		check(trunk(vlan), "T"+two+"\x00")
		check(trunk(5, vlan), "T\x00\x05\x01"+two)
		check(trunk(vlan, vlan), "T"+two+"\x01"+two)
		if vlan > 1 {
			check(trunk(5, 1, vlan), "T\x00\x05\x02\x00\x01"+two)
		}
		if vlan < 4094 {
			check(trunk(5, vlan, 4094), "T\x00\x05\x02"+two+"\x0f\xfe")
		}
	}
}

// P6.1
func TestParse(t *testing.T) {
	for _, c := range texts {
		if p, e := Parse(c.text); !equal(p, c.port) || e != api.OK {
			t.Errorf("%s: %v %v", c.name, p, e)
		}
	}
}

// checkNoText asks for no set-up, each field of it its zero value.
func checkNoText(t *testing.T, s string) {
	t.Helper()
	if p, e := Parse(s); p.Trunk || p.Native != 0 || len(p.Allowed) != 0 || e != api.ErrForm {
		t.Errorf("%.80x: %v %v", s, p, e)
	}
}

// P6.1: texts of no set-up.
func TestParseOfWrongTexts(t *testing.T) {
	for _, s := range []string{
		"", "A", "T", "\x00", "A\x00", "T\x00", "T\x00\x01", "a\x00\x01", "t\x00\x01\x00", "\x00\x01", "AA\x00\x01", "TT\x00\x01\x00",
		"A\x00\x01\x00", "A\x00\x01\x01\x00\x01", "A\x00\x01A\x00\x01", " A\x00\x01", "A1", "A001",
		"A\x00\x00", "A\x0f\xff", "A\x10\x00", "A\x10\x01", "A\x80\x01", "A\xff\xff", "A\xff\x01",
		"T\x00\x00\x00", "T\x0f\xff\x00", "T\x10\x01\x00", "T\xff\xff\x00",
		"T\x00\x01\x01\x00\x00", "T\x00\x01\x01\x0f\xff", "T\x00\x01\x01\x10\x01", "T\x00\x01\x01\xff\xff",
		"T\x00\x01\x02\x00\x02\x00\x01", "T\x00\x01\x02\x00\x02\x00\x02", "T\x00\x01\x02\x01\x00\x00\xff",
		"T\x00\x01\x03\x00\x01\x00\x02\x00\x02", "T\x00\x01\x03\x00\x01\x00\x03\x00\x02",
		strings.Repeat("A", 70000), strings.Repeat("T", 70000), "T\x00\x01" + strings.Repeat("\x00", 1<<20),
	} {
		checkNoText(t, s)
	}
}

// P6.1: what was printed, cut off at each place, or with bytes behind it.
func TestParseOfOtherLengths(t *testing.T) {
	for _, c := range texts {
		for cut := range len(c.text) {
			checkNoText(t, c.text[:cut])
		}
		for _, more := range []string{"\x00", "\x01", "A", "\x00\x00", "\x0f\xfe", "\x0f\xff", "\x00\x00\x00", c.text, strings.Repeat("\x00", 512), strings.Repeat("\x0f\xfe", 1<<15)} {
			checkNoText(t, c.text+more)
		}
	}
}

// P6.1: what was printed, behind each other letter.
func TestParseOfOtherLetters(t *testing.T) {
	for _, c := range texts {
		for letter := range 256 {
			if byte(letter) != c.text[0] {
				checkNoText(t, string([]byte{byte(letter)})+c.text[1:])
			}
		}
	}
}

// numberPlaces answers where the numbers stand in a text.
func numberPlaces(text string) []int {
	places := []int{1}
	for at := 4; at < len(text); at += 2 {
		places = append(places, at)
	}
	return places
}

// P6.1: what was printed, with a number that is no VLAN at each place.
func TestParseOfWrongNumbers(t *testing.T) {
	for _, c := range texts {
		for _, at := range numberPlaces(c.text) {
			for _, two := range []string{"\x00\x00", "\x0f\xff", "\x10\x00", "\x10\x01", "\x40\x01", "\x80\x05", "\xf0\x01", "\xff\xff"} {
				checkNoText(t, c.text[:at]+two+c.text[at+2:])
			}
		}
	}
}

// P6.1: what was printed, with an allowed one twice, or with two that fall.
func TestParseOfWrongOrder(t *testing.T) {
	for _, c := range texts {
		for at := 4; at+4 <= len(c.text); at += 2 {
			first, second := c.text[at:at+2], c.text[at+2:at+4]
			checkNoText(t, c.text[:at]+second+first+c.text[at+4:])
			checkNoText(t, c.text[:at]+first+first+c.text[at+4:])
			checkNoText(t, c.text[:at]+second+second+c.text[at+4:])
		}
	}
}

// P6.1: each count with each number of VLANs behind it: as many, and 16 at most.
func TestParseOfEveryCount(t *testing.T) {
	for said := range 256 {
		for stand := range 260 {
			text := "T\x00\x01" + string([]byte{byte(said)})
			for vlan := 1; vlan <= stand; vlan++ {
				text += string([]byte{byte(vlan / 256), byte(vlan % 256)})
			}
			if said != stand || said > 16 {
				checkNoText(t, text)
				continue
			}
			if p, e := Parse(text); !equal(p, trunk(1, count(said, 1, 1)...)) || e != api.OK {
				t.Errorf("%x: %v %v", text, p, e)
			}
		}
	}
}

// P6.1: each number behind A, and behind T.
func TestParseOfEveryNumber(t *testing.T) {
	for n := range 1 << 16 {
		two := string([]byte{byte(n / 256), byte(n % 256)})
		for _, c := range []struct {
			text string
			port Port
		}{{"A" + two, access(n)}, {"T" + two + "\x00", trunk(n)}, {"T\x00\x07\x01" + two, trunk(7, n)}} {
			if n < 1 || n > 4094 {
				checkNoText(t, c.text)
			} else if p, e := Parse(c.text); !equal(p, c.port) || e != api.OK {
				t.Fatalf("%x: %v %v", c.text, p, e)
			}
		}
	}
}

// anyText is near to a set-up's: few values, so that right ones come often.
func anyText(r *rand.Rand) string {
	b := []byte{"AT"[r.Intn(2)], byte(r.Intn(2)), byte(r.Intn(3))}
	if b[0] == 'T' || r.Intn(8) == 0 {
		n := r.Intn(4)
		b = append(b, byte(n))
		for at := range n {
			b = append(b, 0, byte(3*at+r.Intn(4)))
		}
	}
	if r.Intn(8) == 0 {
		b[r.Intn(len(b))] ^= byte(1 << r.Intn(8))
	}
	if r.Intn(8) == 0 {
		b = b[:len(b)-1]
	}
	return string(b)
}

// P6.1: one set-up has one text: what is parsed is printed as it stood.
func TestParsedIsPrinted(t *testing.T) {
	r := rand.New(rand.NewSource(1))
	right, wrong := 0, 0
	for range 50000 {
		s := anyText(r)
		p, e := Parse(s)
		if e != api.OK {
			wrong++
			checkNoText(t, s)
			continue
		}
		right++
		if x, e := Print(p); x != s || e != api.OK || !Right(p) {
			t.Fatalf("%x: %v %x %v", s, p, x, e)
		}
	}
	if right < 5000 || wrong < 5000 {
		t.Errorf("%d right, %d wrong", right, wrong)
	}
}

// anyPort is near to a set-up; often it is one.
func anyPort(r *rand.Rand) Port {
	p := Port{Trunk: r.Intn(4) > 0, Native: r.Intn(6)}
	for range r.Intn(18) * r.Intn(2) {
		p.Allowed = append(p.Allowed, r.Intn(4096))
	}
	if r.Intn(8) > 0 {
		slices.Sort(p.Allowed)
	}
	if !p.Trunk && r.Intn(4) > 0 {
		p.Allowed = nil
	}
	return p
}

// P6.1: what was printed is parsed.
func TestPrintedIsParsed(t *testing.T) {
	r := rand.New(rand.NewSource(2))
	right := 0
	for range 50000 {
		p := anyPort(r)
		s, e := Print(p)
		if Right(p) != (e == api.OK) {
			t.Fatalf("%v: Right says otherwise than %v", p, e)
		}
		if e != api.OK {
			continue
		}
		right++
		if q, e := Parse(s); !equal(p, q) || e != api.OK {
			t.Fatalf("%v: %x %v %v", p, s, q, e)
		}
	}
	if right < 5000 {
		t.Errorf("only %d right ports", right)
	}
}

// goesOut tells by hand which VLANs have room at a right port.
func goesOut(p Port, vlan int) bool {
	if !p.Trunk {
		return vlan == p.Native
	}
	for _, a := range p.Allowed {
		if a == vlan {
			return true
		}
	}
	return false
}

// P6.1
func TestHas(t *testing.T) {
	for _, c := range []struct {
		port Port
		vlan int
		want bool
	}{
		{access(7), 7, true}, {access(7), 6, false}, {access(7), 8, false}, {access(1), 1, true}, {access(4094), 4094, true}, {access(1), 4094, false},
		{Port{Native: 7, Allowed: []int{}}, 7, true},
		{trunk(1), 1, false}, {trunk(1), 2, false},
		{trunk(1, 1), 1, true}, {trunk(1, 1), 2, false},
		{trunk(1, 2), 1, false}, {trunk(1, 2), 2, true}, {trunk(1, 2), 3, false},
		{trunk(3, 2, 4), 2, true}, {trunk(3, 2, 4), 3, false}, {trunk(3, 2, 4), 4, true}, {trunk(3, 2, 4), 5, false},
		{trunk(1, 1, 4094), 4094, true}, {trunk(1, 1, 4094), 4093, false},
		{trunk(1, 257), 1, false}, {trunk(1, 257), 257, true},
	} {
		if Has(c.port, c.vlan) != c.want {
			t.Errorf("%v, %d: %v", c.port, c.vlan, !c.want)
		}
	}
}

// P6.1: each VLAN, and numbers that are none, at right ports.
func TestHasOfEveryVlan(t *testing.T) {
	for _, c := range texts {
		for vlan := -2; vlan <= 4097; vlan++ {
			if want := goesOut(c.port, vlan); Has(c.port, vlan) != want {
				t.Errorf("%s, %d: %v", c.name, vlan, !want)
			}
		}
		for _, vlan := range noVlans {
			if Has(c.port, vlan) {
				t.Errorf("%s has %d", c.name, vlan)
			}
		}
	}
}

// P6.1: a port that isn't right has no VLAN, what stands in its fields neither.
func TestHasOfWrongPorts(t *testing.T) {
	for _, p := range wrongPorts() {
		for _, vlan := range append([]int{p.Native, 1, 2, 3, 7, 100, 101, 4094}, p.Allowed[:min(len(p.Allowed), 17)]...) {
			if Has(p, vlan) {
				t.Errorf("%.200v has %d", p, vlan)
			}
		}
		for _, vlan := range noVlans {
			if Has(p, vlan) {
				t.Errorf("%.200v has %d", p, vlan)
			}
		}
	}
}

// plain is a frame without a tag.
func plain() api.Frame {
	return api.Frame{Dst: other, Src: some, Type: 0x0800, Payload: "payload"}
}

// tagged is plain with a tag.
func tagged(priority, vlan int) api.Frame {
	f := plain()
	f.Tagged, f.Priority, f.Vlan = true, priority, vlan
	return f
}

// wrongFrames are not right.
func wrongFrames() []api.Frame {
	frames := []api.Frame{{}, {Tagged: true}, {Tagged: true, Vlan: 2}}
	add := func(f api.Frame, do func(f *api.Frame)) {
		do(&f)
		frames = append(frames, f)
	}
	for _, f := range []api.Frame{plain(), tagged(3, 0), tagged(3, 2)} {
		add(f, func(f *api.Frame) { f.Dst = some[:5] })
		add(f, func(f *api.Frame) { f.Dst = some + "\x00" })
		add(f, func(f *api.Frame) { f.Src = "" })
		add(f, func(f *api.Frame) { f.Src = group })
		add(f, func(f *api.Frame) { f.Src = all })
		add(f, func(f *api.Frame) { f.Type = 0x8100 })
		add(f, func(f *api.Frame) { f.Type = -1 })
		add(f, func(f *api.Frame) { f.Type = 1 << 16 })
		add(f, func(f *api.Frame) { f.Type = 6 })
		add(f, func(f *api.Frame) { f.Payload = strings.Repeat("x", 1501) })
		add(f, func(f *api.Frame) { f.Priority = -1 })
		add(f, func(f *api.Frame) { f.Priority = 8 })
	}
	add(plain(), func(f *api.Frame) { f.Priority = 1 })
	for _, vlan := range []int{1, 2, 4094} {
		add(plain(), func(f *api.Frame) { f.Vlan = vlan })
	}
	for _, vlan := range append([]int{-1, 4095}, far...) {
		frames = append(frames, tagged(0, vlan))
	}
	return frames
}

// checkIn asks of which VLAN a frame is, or, with an error, for 0.
func checkIn(t *testing.T, p Port, f api.Frame, want int, wantError api.Errno) {
	t.Helper()
	if vlan, e := In(p, f); vlan != want || e != wantError {
		t.Errorf("In(%.200v, %.200v): %d %v, want %d %v", p, f, vlan, e, want, wantError)
	}
}

// P6.2: what comes in at an access port.
func TestInAtAccess(t *testing.T) {
	for _, native := range []int{1, 2, 7, 255, 256, 4093, 4094} {
		for _, p := range []Port{access(native), {Native: native, Allowed: []int{}}} {
			checkIn(t, p, plain(), native, api.OK)
			for priority := range 8 {
				checkIn(t, p, tagged(priority, 0), native, api.OK)
			}
			for vlan := 1; vlan <= 4094; vlan++ {
				checkIn(t, p, tagged(vlan%8, vlan), 0, api.ErrNone)
			}
		}
	}
}

// P6.2: what comes in at trunks whose Native is among the allowed.
func TestInAtTrunkOfNative(t *testing.T) {
	for _, p := range []Port{trunk(1, 1), trunk(1, 1, 2), trunk(2, 1, 2), trunk(7, 1, 7, 4094), trunk(4094, 4094), trunk(16, count(16, 1, 1)...)} {
		checkIn(t, p, plain(), p.Native, api.OK)
		for priority := range 8 {
			checkIn(t, p, tagged(priority, 0), p.Native, api.OK)
			checkIn(t, p, tagged(priority, p.Native), p.Native, api.OK)
		}
	}
}

// P6.2: what comes in at trunks whose Native isn't among the allowed.
func TestInAtTrunkWithoutNative(t *testing.T) {
	for _, p := range []Port{trunk(1), trunk(1, 2), trunk(1, 4094), trunk(3, 2, 4), trunk(4094, 1), trunk(17, count(16, 1, 1)...), trunk(1, count(16, 2, 1)...)} {
		checkIn(t, p, plain(), 0, api.ErrNone)
		for priority := range 8 {
			checkIn(t, p, tagged(priority, 0), 0, api.ErrNone)
			checkIn(t, p, tagged(priority, p.Native), 0, api.ErrNone)
		}
	}
}

// P6.2: each tag at each trunk: of its VLAN, if that is allowed, of none else.
func TestInOfEveryTag(t *testing.T) {
	for _, c := range texts {
		if !c.port.Trunk {
			continue
		}
		for vlan := 1; vlan <= 4094; vlan++ {
			if goesOut(c.port, vlan) {
				checkIn(t, c.port, tagged(vlan%8, vlan), vlan, api.OK)
			} else {
				checkIn(t, c.port, tagged(vlan%8, vlan), 0, api.ErrNone)
			}
		}
	}
}

// P6.2: whom a frame goes to, and what stands in it, counts for nothing.
func TestInOfOtherFrames(t *testing.T) {
	for _, do := range []func(f *api.Frame){
		func(f *api.Frame) { f.Dst = all },
		func(f *api.Frame) { f.Dst = group },
		func(f *api.Frame) { f.Dst = "\x01\x80\xc2\x00\x00\x00" },
		func(f *api.Frame) { f.Type, f.Payload = 0, "" },
		func(f *api.Frame) { f.Type = 7 },
		func(f *api.Frame) { f.Type, f.Payload = 0xffff, strings.Repeat("x", 1500) },
	} {
		untagged, zero, two, three := plain(), tagged(5, 0), tagged(5, 2), tagged(5, 3)
		for _, f := range []*api.Frame{&untagged, &zero, &two, &three} {
			do(f)
		}
		checkIn(t, access(2), untagged, 2, api.OK)
		checkIn(t, access(2), zero, 2, api.OK)
		checkIn(t, access(2), two, 0, api.ErrNone)
		checkIn(t, trunk(1, 1, 2), untagged, 1, api.OK)
		checkIn(t, trunk(1, 1, 2), zero, 1, api.OK)
		checkIn(t, trunk(1, 1, 2), two, 2, api.OK)
		checkIn(t, trunk(1, 1, 2), three, 0, api.ErrNone)
	}
}

// P6.2: a port or a frame that isn't right, or both: ahead of a VLAN that there is or isn't.
func TestInOfWrong(t *testing.T) {
	frames := []api.Frame{plain(), tagged(3, 0), tagged(0, 1), tagged(3, 2), tagged(7, 4094)}
	for _, p := range wrongPorts() {
		for _, f := range frames {
			checkIn(t, p, f, 0, api.ErrForm)
		}
		for _, f := range wrongFrames()[:10] {
			checkIn(t, p, f, 0, api.ErrForm)
		}
	}
	for _, c := range texts {
		for _, f := range wrongFrames() {
			checkIn(t, c.port, f, 0, api.ErrForm)
		}
	}
}

// checkOut asks for a frame as it goes out, or, with an error, for none.
func checkOut(t *testing.T, p Port, f api.Frame, vlan int, want api.Frame, wantError api.Errno) {
	t.Helper()
	if g, e := Out(p, f, vlan); g != want || e != wantError {
		t.Errorf("Out(%.200v, %.200v, %d): %.200v %v, want %.200v %v", p, f, vlan, g, e, want, wantError)
	}
}

// leaving are frames that go out: whatever tag they came with says nothing of the VLAN that they are of.
func leaving() []api.Frame {
	group14 := api.Frame{Dst: group, Src: other, Type: 0}
	full := api.Frame{Dst: all, Src: other, Tagged: true, Priority: 6, Vlan: 4094, Type: 1500, Payload: strings.Repeat("\x00\xff", 750)}
	frames := []api.Frame{plain(), group14, full}
	for priority := range 8 {
		for _, vlan := range []int{0, 1, 2, 3, 7, 4094} {
			frames = append(frames, tagged(priority, vlan))
		}
	}
	return frames
}

// untaggedOf is f as it goes out of Native, built anew.
func untaggedOf(f api.Frame) api.Frame {
	return api.Frame{Dst: f.Dst, Src: f.Src, Type: f.Type, Payload: f.Payload}
}

// taggedOf is f as it goes out of another VLAN, built anew.
func taggedOf(f api.Frame, vlan int) api.Frame {
	return api.Frame{Dst: f.Dst, Src: f.Src, Tagged: true, Priority: f.Priority, Vlan: vlan, Type: f.Type, Payload: f.Payload}
}

// P6.2: what goes out at an access port goes without a tag.
func TestOutAtAccess(t *testing.T) {
	for _, f := range leaving() {
		for _, native := range []int{1, 2, 7, 256, 4094} {
			checkOut(t, access(native), f, native, untaggedOf(f), api.OK)
			checkOut(t, Port{Native: native, Allowed: []int{}}, f, native, untaggedOf(f), api.OK)
		}
	}
}

// P6.2: what goes out at a trunk: of Native without a tag, of others with theirs, and the Priority that a tag had.
func TestOutAtTrunk(t *testing.T) {
	for _, f := range leaving() {
		for _, p := range []Port{trunk(1, 1, 2), trunk(2, 1, 2, 4094), trunk(4094, 1, 7, 4094), trunk(3, 2, 4), trunk(16, count(16, 1, 1)...), trunk(5, count(16, 4079, 1)...)} {
			for _, vlan := range p.Allowed {
				want := taggedOf(f, vlan)
				if vlan == p.Native {
					want = untaggedOf(f)
				}
				checkOut(t, p, f, vlan, want, api.OK)
			}
		}
	}
}

// P6.2: told by hand, field by field.
func TestOutByHand(t *testing.T) {
	p := trunk(1, 1, 2)
	checkOut(t, p, plain(), 1, api.Frame{Dst: other, Src: some, Type: 0x0800, Payload: "payload"}, api.OK)
	checkOut(t, p, plain(), 2, api.Frame{Dst: other, Src: some, Tagged: true, Vlan: 2, Type: 0x0800, Payload: "payload"}, api.OK)
	checkOut(t, p, tagged(7, 5), 1, api.Frame{Dst: other, Src: some, Type: 0x0800, Payload: "payload"}, api.OK)
	checkOut(t, p, tagged(7, 5), 2, api.Frame{Dst: other, Src: some, Tagged: true, Priority: 7, Vlan: 2, Type: 0x0800, Payload: "payload"}, api.OK)
	checkOut(t, p, tagged(0, 0), 2, api.Frame{Dst: other, Src: some, Tagged: true, Vlan: 2, Type: 0x0800, Payload: "payload"}, api.OK)
	checkOut(t, p, tagged(7, 0), 2, api.Frame{Dst: other, Src: some, Tagged: true, Priority: 7, Vlan: 2, Type: 0x0800, Payload: "payload"}, api.OK)
	checkOut(t, access(2), tagged(7, 2), 2, api.Frame{Dst: other, Src: some, Type: 0x0800, Payload: "payload"}, api.OK)
}

// P6.2: a VLAN that the port doesn't have, Native among them, where it isn't allowed.
func TestOutOfNone(t *testing.T) {
	frames := []api.Frame{plain(), tagged(3, 0), tagged(0, 2), tagged(7, 4094)}
	for _, c := range texts {
		vlans := slices.Concat(noVlans, []int{c.port.Native}, count(300, 1, 1), count(300, 3795, 1))
		for _, vlan := range vlans {
			if goesOut(c.port, vlan) {
				continue
			}
			for _, f := range frames {
				checkOut(t, c.port, f, vlan, api.Frame{}, api.ErrNone)
			}
			// The frame's own tag doesn't let it out either.
			if vlan >= 0 && vlan <= 4094 {
				checkOut(t, c.port, tagged(1, vlan), vlan, api.Frame{}, api.ErrNone)
			}
		}
	}
}

// P6.2: a port or a frame that isn't right, or both: ahead of a VLAN that the port doesn't have.
func TestOutOfWrong(t *testing.T) {
	vlans := []int{-1, 0, 1, 2, 3, 101, 4094, 4095, math.MinInt, math.MaxInt}
	for _, p := range wrongPorts() {
		for _, vlan := range append(vlans, p.Native) {
			checkOut(t, p, plain(), vlan, api.Frame{}, api.ErrForm)
			checkOut(t, p, tagged(3, 2), vlan, api.Frame{}, api.ErrForm)
			checkOut(t, p, api.Frame{}, vlan, api.Frame{}, api.ErrForm)
		}
	}
	for _, c := range texts {
		for _, f := range wrongFrames() {
			for _, vlan := range slices.Concat(vlans, []int{c.port.Native}, c.port.Allowed) {
				checkOut(t, c.port, f, vlan, api.Frame{}, api.ErrForm)
			}
		}
	}
}

// P6.3: each VLAN that goes out comes in again at the same set-up, as it stood in Allowed or was parsed.
func TestOutAndIn(t *testing.T) {
	for _, c := range texts {
		again, e := Parse(c.text)
		if e != api.OK {
			t.Fatalf("%s: %v", c.name, e)
		}
		for _, f := range leaving() {
			for _, vlan := range append([]int{c.port.Native}, c.port.Allowed...) {
				if !goesOut(c.port, vlan) {
					continue
				}
				g, e := Out(c.port, f, vlan)
				if e != api.OK {
					t.Fatalf("%s, %d: %v", c.name, vlan, e)
				}
				checkIn(t, c.port, g, vlan, api.OK)
				checkIn(t, again, g, vlan, api.OK)
			}
		}
	}
}

// P6.3: each of the 4094, at an access port, as a trunk's Native, and as another one of a trunk's.
func TestOutAndInOfEveryVlan(t *testing.T) {
	for vlan := 1; vlan <= 4094; vlan++ {
		for _, p := range []Port{access(vlan), trunk(vlan, vlan), trunk(vlan%4094+1, vlan)} {
			for _, f := range []api.Frame{plain(), tagged(7, 0), tagged(3, vlan), tagged(0, vlan%4094+1)} {
				g, e := Out(p, f, vlan)
				if e != api.OK {
					t.Fatalf("%v, %d: %v", p, vlan, e)
				}
				if back, e := In(p, g); back != vlan || e != api.OK {
					t.Fatalf("%v, %d: %v comes in of %d %v", p, vlan, g, back, e)
				}
			}
		}
	}
}

// P6.3: whatever goes out, at any port near to a set-up, comes in of the same VLAN; what doesn't isn't of any there.
func TestOutAndInOfAny(t *testing.T) {
	r := rand.New(rand.NewSource(3))
	frames := leaving()
	out := 0
	for range 50000 {
		p := anyPort(r)
		vlan := r.Intn(6)
		if len(p.Allowed) > 0 && r.Intn(2) == 0 {
			vlan = p.Allowed[r.Intn(len(p.Allowed))]
		}
		g, e := Out(p, frames[r.Intn(len(frames))], vlan)
		if (e == api.OK) != Has(p, vlan) {
			t.Fatalf("%v, %d: %v", p, vlan, e)
		}
		if e == api.OK {
			out++
			checkIn(t, p, g, vlan, api.OK)
		}
	}
	if out < 5000 {
		t.Errorf("only %d went out", out)
	}
}

// spare answers p with an Allowed that has room behind it, and all of that memory.
func spare(p Port) (Port, []int) {
	whole := append(slices.Clone(p.Allowed), 4094, -1, 3, 0)
	p.Allowed = whole[:len(p.Allowed)]
	return p, whole
}

// P6.1, P6.2: what is handed in is not changed, its spare room neither.
func TestHandedInIsUnchanged(t *testing.T) {
	ports := wrongPorts()
	for _, c := range texts {
		ports = append(ports, c.port)
	}
	for _, was := range ports {
		p, whole := spare(was)
		before := slices.Clone(whole)
		Right(p)
		Print(p)
		for _, vlan := range []int{-1, 0, 1, 2, 4094, 4095, p.Native} {
			Has(p, vlan)
			Out(p, plain(), vlan)
			Out(p, tagged(3, 2), vlan)
		}
		In(p, plain())
		In(p, tagged(3, 2))
		if !slices.Equal(whole, before) {
			t.Errorf("%.200v: now %.200v", before, whole)
		}
	}
}

// P6.1: what stands in the spare room behind Allowed counts for nothing.
func TestSpareRoomIsNotAllowed(t *testing.T) {
	for _, c := range texts {
		p, _ := spare(c.port)
		if s, e := Print(p); s != c.text || e != api.OK {
			t.Errorf("%s: %x %v", c.name, s, e)
		}
		for _, vlan := range []int{3, 4094} {
			if want := goesOut(c.port, vlan); Has(p, vlan) != want {
				t.Errorf("%s, %d: %v", c.name, vlan, !want)
			}
		}
	}
}

// P6.1: each answer's Allowed is memory of its own.
func TestParsedIsNewMemory(t *testing.T) {
	for _, c := range texts {
		first, _ := Parse(c.text)
		second, _ := Parse(c.text)
		room := first.Allowed[:cap(first.Allowed)]
		for at := range room {
			room[at] = -1
		}
		third, _ := Parse(c.text)
		if !equal(second, c.port) || !equal(third, c.port) {
			t.Errorf("%s: %v %v", c.name, second, third)
		}
	}
}

// P6.1: a text that was told stays, whatever becomes of the set-up's list.
func TestPrintedIsKept(t *testing.T) {
	p := trunk(1, 1, 2)
	s, _ := Print(p)
	p.Allowed[1] = 3
	if u, e := Print(p); s != "T\x00\x01\x02\x00\x01\x00\x02" || u != "T\x00\x01\x02\x00\x01\x00\x03" || e != api.OK {
		t.Errorf("%x %x %v", s, u, e)
	}
}
