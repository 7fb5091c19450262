package fdb

import (
	"math"
	"math/rand"
	"slices"
	"strings"
	"testing"

	"treebridge/api"
)

const (
	a = "\x02\x00\x00\x00\x00\x01"
	b = "\x02\x00\x00\x00\x00\x02"
	c = "\x02\x00\x00\x00\x00\x03"
	d = "\x02\x00\x00\x00\x00\x04"

	lastTime = 1099511627776 // 2^40, told by hand
)

// far are numbers far out of every range, those among them that a narrower number would take for one within.
var far = []int{
	-2, -15, -4094, -4095, -4096, -65535, -65536, -1<<32 + 1, -1 << 32, -1 << 40, -1<<40 + 1, -1 << 60, math.MinInt, math.MinInt + 1, math.MinInt + 2,
	1<<41 + 1, 1<<42 - 1, 1 << 60, 1<<60 + 1, math.MaxInt - 1, math.MaxInt,
}

// wrongMacs are of no entry.
var wrongMacs = []string{
	"", "\x02", "\x02\x00\x00\x00\x00", "\x02\x00\x00\x00\x00\x00\x00", "\x02aaaaaaa", "\x02aaaaa\x02bbbbb", strings.Repeat("\x02", 1<<16),
	"\x00\x00\x00\x00\x00", "\x00\x00\x00\x00\x00\x00\x00", "¢aaaaa", "aaaa¢a¢",
	"\x01\x00\x00\x00\x00\x00", "\x03aaaaa", "\xff\xff\xff\xff\xff\xff", "\xff\x00\x00\x00\x00\x00", "\x81\x00\x00\x00\x00\x00", "\x01\x80\xc2\x00\x00\x00", "\x01\x00\x0c\xcc\xcc\xcd",
	"\x01\x00\x00\x00\x00", "\x01\x00\x00\x00\x00\x00\x00",
}

// oddMacs are right, though they look as if they weren't.
var oddMacs = []string{
	"\x00\x00\x00\x00\x00\x00", "\xfe\xff\xff\xff\xff\xff", "\x00\xff\xff\xff\xff\xff", "\x80\x01\x01\x01\x01\x01", "\x02\x01\x00\x00\x00\x00", "\x7e\x80\x80\x80\x80\x80", "¢aaaa", "\xc2\xff\xfe\xfd\xfc\xfb",
}

func table(t *testing.T, room int) *Table {
	t.Helper()
	x, e := New(room)
	if e != api.OK || x == nil {
		t.Fatalf("room %d: %v", room, e)
	}
	return x
}

// learn learns what it must be able to.
func learn(t *testing.T, x *Table, vlan int, mac string, port, now int) {
	t.Helper()
	if e := x.Learn(vlan, mac, port, now); e != api.OK {
		t.Fatalf("Learn(%d, %x, %d, %d): %v", vlan, mac, port, now, e)
	}
}

func fix(t *testing.T, x *Table, vlan int, mac string, port int) {
	t.Helper()
	if e := x.Fix(vlan, mac, port); e != api.OK {
		t.Fatalf("Fix(%d, %x, %d): %v", vlan, mac, port, e)
	}
}

func heard(vlan int, mac string, port, now int) Entry {
	return Entry{Vlan: vlan, Mac: mac, Port: port, Heard: now}
}

func fixed(vlan int, mac string, port int) Entry {
	return Entry{Vlan: vlan, Mac: mac, Port: port, Fixed: true}
}

// holds asks that x has just these entries, and learned so many.
func holds(t *testing.T, x *Table, learned int, want ...Entry) {
	t.Helper()
	if l := x.List(); !slices.Equal(l, want) {
		t.Errorf("holds %#v, want %#v", l, want)
	}
	for _, e := range want {
		if p, ok := x.Find(e.Vlan, e.Mac); p != e.Port || !ok {
			t.Errorf("Find(%d, %x): %d %v, want %d", e.Vlan, e.Mac, p, ok, e.Port)
		}
	}
	if n := x.Learned(); n != learned {
		t.Errorf("learned %d, want %d", n, learned)
	}
}

// macOf answers an address for each number.
func macOf(n int) string {
	return string([]byte{byte(n>>8) << 1, 0x80, 0, 0xff, 0, byte(n)})
}

// P7.1: of a room out of range there is no table.
func TestNew(t *testing.T) {
	for n := -70000; n <= 70000; n++ {
		want := api.ErrRange
		if n >= 1 && n <= 64 {
			want = api.OK
		}
		if x, e := New(n); e != want || (x == nil) != (want != api.OK) {
			t.Fatalf("%d: %v %v", n, x, e)
		}
	}
	for _, n := range append([]int{-1, 0, 65, 1<<32 + 1, 1<<32 + 64, 1<<16 + 1, 257}, far...) {
		if x, e := New(n); x != nil || e != api.ErrRange {
			t.Errorf("%d: %v %v", n, x, e)
		}
	}
}

// P7.1: a new table is empty, and is none but its own.
func TestNewIsEmpty(t *testing.T) {
	for room := 1; room <= 64; room++ {
		x, y := table(t, room), table(t, room)
		holds(t, x, 0)
		if p, ok := x.Find(1, a); p != 0 || ok {
			t.Errorf("Find: %d %v", p, ok)
		}
		if e := x.Drop(1, a); e != api.ErrNone {
			t.Errorf("Drop: %v", e)
		}
		if n := x.Age(math.MaxInt, math.MinInt) + x.Flush(1, 0); n != 0 {
			t.Errorf("%d went", n)
		}
		learn(t, x, 1, a, 2, 3)
		fix(t, y, 7, a, 4)
		holds(t, x, 1, heard(1, a, 2, 3))
		holds(t, y, 0, fixed(7, a, 4))
	}
}

// P7.1: a table has just so much room, for what is learned and for what is fixed.
func TestRoom(t *testing.T) {
	for room := 1; room <= 64; room++ {
		x, y := table(t, room), table(t, room)
		for n := range 2 * room {
			learn(t, x, 1+n, macOf(n), n%16, n)
			if got := len(x.List()); got != min(n+1, room) {
				t.Fatalf("room %d: %d entries behind %d", room, got, n+1)
			}
			want := api.OK
			if n >= room {
				want = api.ErrFull
			}
			if e := y.Fix(1+n, macOf(n), n%16); e != want {
				t.Fatalf("room %d: Fix %d: %v", room, n, e)
			}
			if got := len(y.List()); got != min(n+1, room) {
				t.Fatalf("room %d: %d entries behind %d", room, got, n+1)
			}
		}
	}
}

// told is what a table is told, and what it answers.
type told struct {
	vlan      int
	mac       string
	port, now int
	want      api.Errno
}

// tellings are numbers and addresses within their ranges, at their edges, and beyond, one by one and together.
func tellings() []told {
	l := []told{
		{-1, a, 5, 5, api.ErrRange}, {0, a, 5, 5, api.ErrRange}, {1, a, 5, 5, api.OK}, {2, a, 5, 5, api.OK},
		{4093, a, 5, 5, api.OK}, {4094, a, 5, 5, api.OK}, {4095, a, 5, 5, api.ErrRange}, {4096, a, 5, 5, api.ErrRange}, {1<<16 + 1, a, 5, 5, api.ErrRange}, {1<<32 + 1, a, 5, 5, api.ErrRange},
		{5, a, -1, 5, api.ErrRange}, {5, a, 0, 5, api.OK}, {5, a, 1, 5, api.OK}, {5, a, 14, 5, api.OK}, {5, a, 15, 5, api.OK},
		{5, a, 16, 5, api.ErrRange}, {5, a, 17, 5, api.ErrRange}, {5, a, 256, 5, api.ErrRange}, {5, a, 1 << 16, 5, api.ErrRange}, {5, a, 1 << 32, 5, api.ErrRange},
		{5, a, 5, -1, api.ErrRange}, {5, a, 5, 0, api.OK}, {5, a, 5, 1, api.OK}, {5, a, 5, 1 << 31, api.OK}, {5, a, 5, 1 << 32, api.OK},
		{5, a, 5, lastTime - 1, api.OK}, {5, a, 5, lastTime, api.OK}, {5, a, 5, lastTime + 1, api.ErrRange}, {5, a, 5, lastTime + 2, api.ErrRange},
		{4094, "\xfe\xff\xff\xff\xff\xff", 15, lastTime, api.OK}, {1, "\x00\x00\x00\x00\x00\x00", 0, 0, api.OK},
	}
	for _, n := range far {
		l = append(l, told{n, a, 5, 5, api.ErrRange}, told{5, a, n, 5, api.ErrRange}, told{5, a, 5, n, api.ErrRange}, told{n, a, n, n, api.ErrRange})
	}
	for _, mac := range wrongMacs {
		l = append(l, told{5, mac, 5, 5, api.ErrForm}, told{1, mac, 0, 0, api.ErrForm}, told{4094, mac, 15, lastTime, api.ErrForm})
		for _, n := range []int{-1, math.MinInt, math.MaxInt} {
			l = append(l, told{n, mac, 5, 5, api.ErrRange}, told{5, mac, n, 5, api.ErrRange}, told{5, mac, 5, n, api.ErrRange})
		}
		l = append(l, told{0, mac, 5, 5, api.ErrRange}, told{4095, mac, 5, 5, api.ErrRange}, told{5, mac, 16, 5, api.ErrRange}, told{5, mac, 5, lastTime + 1, api.ErrRange})
	}
	for _, mac := range oddMacs {
		l = append(l, told{5, mac, 5, 5, api.OK}, told{0, mac, 5, 5, api.ErrRange})
	}
	return l
}

// P7.1, P7.2: what is out of range comes first, then what isn't of the form; then nothing has changed, in an empty table, one with room, a full one, and one that is full of fixed entries.
func TestLearnRight(t *testing.T) {
	for i, y := range tellings() {
		x := table(t, 1)
		if e := x.Learn(y.vlan, y.mac, y.port, y.now); e != y.want {
			t.Errorf("%d %#v: %v", i, y, e)
		}
		if y.want == api.OK {
			holds(t, x, 1, heard(y.vlan, y.mac, y.port, y.now))
			continue
		}
		holds(t, x, 0)
		for room := 2; room <= 3; room++ {
			x = table(t, room)
			learn(t, x, 5, a, 6, 7)
			fix(t, x, 5, b, 8)
			if e := x.Learn(y.vlan, y.mac, y.port, y.now); e != y.want {
				t.Errorf("%d %#v, room %d: %v", i, y, room, e)
			}
			holds(t, x, 1, heard(5, a, 6, 7), fixed(5, b, 8))
		}
		x = table(t, 1)
		fix(t, x, 5, a, 8)
		if e := x.Learn(y.vlan, y.mac, y.port, y.now); e != y.want {
			t.Errorf("%d %#v, fixed: %v", i, y, e)
		}
		holds(t, x, 0, fixed(5, a, 8))
	}
}

// P7.1: Fix asks as Learn does, ahead of whether there is room.
func TestFixRight(t *testing.T) {
	for i, y := range tellings() {
		if y.want == api.ErrRange && y.now != 5 && y.vlan == 5 && y.port == 5 {
			continue // Fix is told no time
		}
		x := table(t, 1)
		if e := x.Fix(y.vlan, y.mac, y.port); e != y.want {
			t.Errorf("%d %#v: %v", i, y, e)
		}
		if y.want == api.OK {
			holds(t, x, 0, fixed(y.vlan, y.mac, y.port))
			continue
		}
		holds(t, x, 0)
		for room := 2; room <= 3; room++ {
			x = table(t, room)
			learn(t, x, 5, a, 6, 7)
			fix(t, x, 5, b, 8)
			if e := x.Fix(y.vlan, y.mac, y.port); e != y.want {
				t.Errorf("%d %#v, room %d: %v", i, y, room, e)
			}
			holds(t, x, 1, heard(5, a, 6, 7), fixed(5, b, 8))
		}
	}
}

// P7.1: each VLAN and each port by itself.
func TestEachVlanAndPort(t *testing.T) {
	for vlan := -70; vlan <= 4200; vlan++ {
		for _, port := range []int{0, 7, 15} {
			x := table(t, 3)
			right := vlan >= 1 && vlan <= 4094
			e, g := x.Learn(vlan, a, port, 1), x.Fix(vlan, b, port)
			if (e == api.OK) != right || (g == api.OK) != right || len(x.List()) != 2*number(right) {
				t.Fatalf("VLAN %d, port %d: %v %v", vlan, port, e, g)
			}
		}
	}
	for port := -300; port <= 300; port++ {
		x := table(t, 3)
		right := port >= 0 && port <= 15
		e, g := x.Learn(1, a, port, 1), x.Fix(1, b, port)
		if (e == api.OK) != right || (g == api.OK) != right || len(x.List()) != 2*number(right) {
			t.Fatalf("port %d: %v %v", port, e, g)
		}
	}
}

func number(b bool) int {
	if b {
		return 1
	}
	return 0
}

// P7.1: the lowest bit of the first byte alone tells a group's address.
func TestEachFirstByte(t *testing.T) {
	for first := range 256 {
		for _, rest := range []string{"\x00\x00\x00\x00\x00", "\x01\x01\x01\x01\x01", "\xff\xff\xff\xff\xff"} {
			mac := string([]byte{byte(first)}) + rest
			want := api.OK
			if first%2 == 1 {
				want = api.ErrForm
			}
			x := table(t, 2)
			if e := x.Learn(1, mac, 1, 1); e != want {
				t.Errorf("Learn %x: %v", mac, e)
			}
			if e := x.Fix(2, mac, 1); e != want {
				t.Errorf("Fix %x: %v", mac, e)
			}
		}
	}
}

// P7.1, P7.2: what is there is heard then, be it later, at the same time or earlier; it is moved, if it was heard elsewhere.
func TestLearnAgain(t *testing.T) {
	for _, room := range []int{1, 2, 64} {
		for _, port := range []int{0, 3, 4, 15} {
			for _, now := range []int{0, 49, 50, 51, lastTime} {
				x := table(t, room)
				learn(t, x, 9, a, 3, 50)
				learn(t, x, 9, a, port, now)
				holds(t, x, 1+number(port != 3), heard(9, a, port, now))
			}
		}
	}
}

// P7.1: in a full table nothing goes for what is there already.
func TestLearnAgainInAFullTable(t *testing.T) {
	x := table(t, 3)
	learn(t, x, 1, a, 1, 10)
	learn(t, x, 1, b, 2, 20)
	learn(t, x, 1, c, 3, 30)
	learn(t, x, 1, c, 3, 5)
	holds(t, x, 3, heard(1, a, 1, 10), heard(1, b, 2, 20), heard(1, c, 3, 5))
	learn(t, x, 1, b, 7, 1)
	holds(t, x, 4, heard(1, a, 1, 10), heard(1, b, 7, 1), heard(1, c, 3, 5))
	// Heard earlier than it had been, b is the one that was heard longest ago.
	learn(t, x, 1, d, 4, 0)
	holds(t, x, 5, heard(1, a, 1, 10), heard(1, c, 3, 5), heard(1, d, 4, 0))
}

// P7.1, P7.2: what is fixed is never moved by what is heard, nor heard later.
func TestLearnFixed(t *testing.T) {
	for _, room := range []int{1, 2, 64} {
		for _, port := range []int{0, 3, 4, 15} {
			for _, now := range []int{0, 1, 50, lastTime} {
				x := table(t, room)
				fix(t, x, 9, a, 3)
				learn(t, x, 9, a, port, now)
				holds(t, x, 0, fixed(9, a, 3))
			}
		}
	}
	// In a full table, what is fixed makes nothing else go.
	x := table(t, 2)
	fix(t, x, 1, a, 1)
	learn(t, x, 1, b, 2, 5)
	learn(t, x, 1, a, 9, 6)
	holds(t, x, 1, fixed(1, a, 1), heard(1, b, 2, 5))
}

// P7.1: in a table of one, what is learned second makes the first one go, whatever the times are.
func TestTableOfOne(t *testing.T) {
	for _, now := range []int{0, 4, 5, 6, lastTime} {
		for _, y := range []Entry{heard(1, b, 2, now), heard(2, a, 1, now), heard(2, c, 0, now)} {
			x := table(t, 1)
			learn(t, x, 1, a, 1, 5)
			learn(t, x, y.Vlan, y.Mac, y.Port, y.Heard)
			holds(t, x, 2, y)
			if p, ok := x.Find(1, a); p != 0 || ok {
				t.Errorf("Find: %d %v", p, ok)
			}
		}
	}
}

// P7.1: which entry of a full table goes.
func TestWhichGoes(t *testing.T) {
	for i, y := range []struct {
		there []Entry
		goes  int // -1: none
	}{
		// The one that was heard longest ago, wherever it stands.
		{[]Entry{heard(1, a, 1, 5), heard(1, b, 1, 6), heard(1, c, 1, 7)}, 0},
		{[]Entry{heard(1, a, 1, 6), heard(1, b, 1, 5), heard(1, c, 1, 7)}, 1},
		{[]Entry{heard(1, a, 1, 7), heard(1, b, 1, 6), heard(1, c, 1, 5)}, 2},
		{[]Entry{heard(1, a, 1, lastTime), heard(2, a, 1, 0), heard(3, a, 1, 1)}, 1},
		{[]Entry{heard(1, a, 1, lastTime), heard(2, a, 1, lastTime), heard(3, a, 1, lastTime-1)}, 2},
		{[]Entry{heard(1, a, 1, 1<<32+1), heard(2, a, 1, 2), heard(3, a, 1, 1<<32)}, 1},
		// Of several the one of the lesser VLAN.
		{[]Entry{heard(1, a, 1, 5), heard(2, a, 1, 5), heard(3, a, 1, 5)}, 0},
		{[]Entry{heard(1, c, 3, 5), heard(2, b, 2, 5), heard(3, a, 1, 5)}, 0},
		{[]Entry{heard(1, a, 1, 6), heard(255, c, 1, 5), heard(256, b, 1, 5)}, 1},
		{[]Entry{heard(9, c, 9, 0), heard(10, b, 1, 0), heard(4094, a, 0, 0)}, 0},
		// Then of the lesser address, by its bytes, the first ones first.
		{[]Entry{heard(1, a, 3, 5), heard(1, b, 2, 5), heard(1, c, 1, 5)}, 0},
		{[]Entry{heard(1, a, 3, 6), heard(1, b, 2, 5), heard(1, c, 1, 5)}, 1},
		{[]Entry{heard(7, "\x02\x7f\x00\x00\x00\x00", 1, 5), heard(7, "\x02\x80\x00\x00\x00\x00", 1, 5), heard(7, "\x02\xff\x00\x00\x00\x00", 1, 5)}, 0},
		{[]Entry{heard(7, "\x00\xff\xff\xff\xff\xff", 1, 5), heard(7, "\x02\x00\x00\x00\x00\x00", 1, 5), heard(7, "\xfe\x00\x00\x00\x00\x00", 1, 5)}, 0},
		{[]Entry{heard(6, "\xfe\xff\xff\xff\xff\xff", 1, 5), heard(7, "\x00\x00\x00\x00\x00\x00", 1, 5), heard(8, "\x00\x00\x00\x00\x00\x00", 1, 4)}, 2},
		// A fixed one never, though it is heard at 0.
		{[]Entry{fixed(1, a, 1), heard(1, b, 1, 6), heard(1, c, 1, 7)}, 1},
		{[]Entry{fixed(1, a, 1), heard(1, b, 1, 7), heard(1, c, 1, 7)}, 1},
		{[]Entry{fixed(1, a, 1), heard(1, b, 1, 7), heard(1, c, 1, 6)}, 2},
		{[]Entry{heard(1, a, 1, lastTime), fixed(1, b, 1), fixed(1, c, 1)}, 0},
		{[]Entry{fixed(1, a, 1), fixed(1, b, 1), heard(4094, c, 1, 0)}, 2},
		{[]Entry{fixed(1, a, 1), heard(1, b, 1, 0), heard(1, c, 1, 0)}, 1},
		{[]Entry{fixed(1, a, 1), fixed(1, b, 1), fixed(1, c, 1)}, -1},
	} {
		for _, order := range [][]int{{0, 1, 2}, {0, 2, 1}, {1, 0, 2}, {1, 2, 0}, {2, 0, 1}, {2, 1, 0}} {
			for _, comes := range []Entry{heard(5, d, 8, 0), heard(5, d, 8, 5), heard(5, d, 8, lastTime), heard(1, "\x00\x00\x00\x00\x00\x00", 0, 5), heard(4094, "\xfe\xfe\xfe\xfe\xfe\xfe", 15, 6)} {
				x := table(t, 3)
				learned := 0
				for _, at := range order {
					if e := y.there[at]; e.Fixed {
						fix(t, x, e.Vlan, e.Mac, e.Port)
					} else {
						learn(t, x, e.Vlan, e.Mac, e.Port, e.Heard)
						learned++
					}
				}
				holds(t, x, learned, y.there...)
				learn(t, x, comes.Vlan, comes.Mac, comes.Port, comes.Heard)
				want := slices.Clone(y.there)
				if y.goes >= 0 {
					want = append(slices.Delete(want, y.goes, y.goes+1), comes)
					slices.SortFunc(want, byPlace)
					learned++
				}
				t.Logf("%d, order %v, comes %#v", i, order, comes)
				holds(t, x, learned, want...)
			}
		}
	}
}

// byPlace goes by VLANs, then by the address's bytes, told as numbers.
func byPlace(a, b Entry) int {
	if a.Vlan != b.Vlan {
		return sign(a.Vlan - b.Vlan)
	}
	return sign(macNumber(a.Mac) - macNumber(b.Mac))
}

func sign(n int) int {
	switch {
	case n < 0:
		return -1
	case n > 0:
		return 1
	}
	return 0
}

func macNumber(mac string) int {
	n := 0
	for at := range len(mac) {
		n = n*256 + int(mac[at])
	}
	return n
}

// P7.1: a fixed entry stands where there was one, learned or fixed, at that port, heard at 0; also in a full table.
func TestFixAgain(t *testing.T) {
	for _, room := range []int{1, 2, 64} {
		for _, port := range []int{0, 3, 4, 15} {
			x := table(t, room)
			learn(t, x, 9, a, 3, 50)
			fix(t, x, 9, a, port)
			holds(t, x, 1, fixed(9, a, port))
			fix(t, x, 9, a, 4)
			holds(t, x, 1, fixed(9, a, 4))
			fix(t, x, 9, a, port)
			holds(t, x, 1, fixed(9, a, port))
			learn(t, x, 9, a, 7, 60)
			holds(t, x, 1, fixed(9, a, port))
		}
	}
}

// P7.1: what was learned makes no room for what is to be fixed.
func TestFixInAFullTable(t *testing.T) {
	x := table(t, 3)
	learn(t, x, 1, a, 1, 10)
	fix(t, x, 1, b, 2)
	learn(t, x, 1, c, 3, 30)
	all := []Entry{heard(1, a, 1, 10), fixed(1, b, 2), heard(1, c, 3, 30)}
	for _, y := range []Entry{fixed(1, d, 1), fixed(2, a, 1), fixed(2, b, 2), fixed(4094, c, 15), fixed(1, "\x00\x00\x00\x00\x00\x00", 0)} {
		if e := x.Fix(y.Vlan, y.Mac, y.Port); e != api.ErrFull {
			t.Errorf("%#v: %v", y, e)
		}
		holds(t, x, 2, all...)
		if p, ok := x.Find(y.Vlan, y.Mac); p != 0 || ok {
			t.Errorf("%#v: %d %v", y, p, ok)
		}
	}
	for _, y := range []told{{0, d, 1, 0, api.ErrRange}, {4095, a, 1, 0, api.ErrRange}, {1, d, 16, 0, api.ErrRange}, {1, d, -1, 0, api.ErrRange}, {1, "\x01aaaaa", 1, 0, api.ErrForm}, {1, "", 1, 0, api.ErrForm}} {
		if e := x.Fix(y.vlan, y.mac, y.port); e != y.want {
			t.Errorf("%#v: %v", y, e)
		}
	}
	fix(t, x, 1, c, 5)
	fix(t, x, 1, b, 6)
	fix(t, x, 1, a, 7)
	holds(t, x, 2, fixed(1, a, 7), fixed(1, b, 6), fixed(1, c, 5))
	if e := x.Fix(2, a, 1); e != api.ErrFull {
		t.Errorf("full of fixed ones: %v", e)
	}
	learn(t, x, 2, a, 1, 99)
	holds(t, x, 2, fixed(1, a, 7), fixed(1, b, 6), fixed(1, c, 5))
	if e := x.Drop(1, b); e != api.OK {
		t.Error(e)
	}
	fix(t, x, 2, a, 1)
	holds(t, x, 2, fixed(1, a, 7), fixed(1, c, 5), fixed(2, a, 1))
}

// strange are VLANs and addresses of which there is no entry in a table of some of VLANs 1 and 2.
func strange() []Entry {
	l := []Entry{heard(1, c, 0, 0), heard(2, b, 0, 0), heard(3, a, 0, 0), heard(4094, a, 0, 0), heard(257, a, 0, 0), heard(1<<32+1, a, 0, 0), heard(-1, a, 0, 0), heard(0, a, 0, 0), heard(4095, a, 0, 0), heard(4096, "", 0, 0)}
	for _, n := range far {
		l = append(l, heard(n, a, 0, 0))
	}
	for _, mac := range slices.Concat(wrongMacs, oddMacs, []string{a + "\x00", a[:5], "\x00" + a, a + b, b + a}) {
		l = append(l, heard(1, mac, 0, 0), heard(2, mac, 0, 0), heard(0, mac, 0, 0), heard(-1, mac, 0, 0), heard(4095, mac, 0, 0))
	}
	return l
}

// P7.2: what there is goes, learned or fixed; of what there isn't nothing.
func TestDrop(t *testing.T) {
	for _, room := range []int{4, 64} {
		x := table(t, room)
		learn(t, x, 1, a, 0, 5)
		fix(t, x, 1, b, 15)
		fix(t, x, 2, a, 3)
		learn(t, x, 2, c, 4, 6)
		all := []Entry{heard(1, a, 0, 5), fixed(1, b, 15), fixed(2, a, 3), heard(2, c, 4, 6)}
		for _, y := range strange() {
			if e := x.Drop(y.Vlan, y.Mac); e != api.ErrNone {
				t.Errorf("%#v: %v", y, e)
			}
			if p, ok := x.Find(y.Vlan, y.Mac); p != 0 || ok {
				t.Errorf("%#v: %d %v", y, p, ok)
			}
		}
		holds(t, x, 2, all...)
		for _, at := range []int{2, 0, 1, 0} {
			y := all[at]
			if e := x.Drop(y.Vlan, y.Mac); e != api.OK {
				t.Errorf("%#v: %v", y, e)
			}
			all = slices.Delete(all, at, at+1)
			holds(t, x, 2, all...)
			if e := x.Drop(y.Vlan, y.Mac); e != api.ErrNone {
				t.Errorf("%#v, again: %v", y, e)
			}
			if p, ok := x.Find(y.Vlan, y.Mac); p != 0 || ok {
				t.Errorf("%#v: %d %v", y, p, ok)
			}
		}
	}
}

// P7.2: what went makes room, and may be learned where a fixed one stood.
func TestDropMakesRoom(t *testing.T) {
	x := table(t, 2)
	fix(t, x, 1, a, 1)
	fix(t, x, 1, b, 2)
	learn(t, x, 1, c, 3, 5)
	if e := x.Drop(1, a); e != api.OK {
		t.Error(e)
	}
	learn(t, x, 1, a, 9, 6)
	holds(t, x, 1, heard(1, a, 9, 6), fixed(1, b, 2))
	if e := x.Drop(1, a); e != api.OK {
		t.Error(e)
	}
	fix(t, x, 1, c, 4)
	holds(t, x, 1, fixed(1, b, 2), fixed(1, c, 4))
}

// P7.2: what is at port 0 is told apart from what isn't there.
func TestFind(t *testing.T) {
	for port := range 16 {
		x := table(t, 2)
		learn(t, x, 1, a, port, 5)
		fix(t, x, 2, a, 15-port)
		holds(t, x, 1, heard(1, a, port, 5), fixed(2, a, 15-port))
		learn(t, x, 1, a, 15-port, 5)
		holds(t, x, 2, heard(1, a, 15-port, 5), fixed(2, a, 15-port))
	}
}

// P7.2: what goes of entries that were heard at 0, 10, 20, 20, and at the last time, beside two fixed ones.
func TestAge(t *testing.T) {
	all := []Entry{heard(1, a, 1, 10), heard(1, b, 2, 20), fixed(1, c, 3), heard(2, a, 1, 20), fixed(2, b, 3), heard(3, a, 4, 0), heard(4, a, 4, lastTime)}
	for _, y := range []struct {
		now, long int
		goes      []int
	}{
		{20, 21, nil},
		{19, 20, nil}, {20, 20, []int{5}}, {21, 20, []int{5}},
		{20, 19, []int{5}}, {20, 11, []int{5}}, {20, 10, []int{0, 5}}, {20, 9, []int{0, 5}}, {20, 1, []int{0, 5}},
		{29, 10, []int{0, 5}}, {30, 10, []int{0, 1, 3, 5}}, {31, 10, []int{0, 1, 3, 5}}, {30, 11, []int{0, 5}},
		// So long ago as 0, or less, is at that time itself.
		{20, 0, []int{0, 1, 3, 5}}, {19, 0, []int{0, 5}}, {10, 0, []int{0, 5}}, {9, 0, []int{5}}, {0, 0, []int{5}}, {0, 1, nil}, {1, 1, []int{5}},
		{20, -1, []int{0, 1, 3, 5}}, {19, -1, []int{0, 5}}, {9, -1, []int{5}}, {9, -2, []int{5}}, {0, -1000, []int{5}}, {19, math.MinInt, []int{0, 5}}, {19, math.MinInt + 1, []int{0, 5}}, {0, -lastTime, []int{5}},
		// A time ahead of those that were heard.
		{-1, 0, nil}, {-1, -1, nil}, {-1, 1, nil}, {-10, -1000, nil}, {-1, math.MinInt, nil}, {-1, math.MaxInt, nil},
		{-lastTime, 0, nil}, {-lastTime - 1, 0, nil}, {-1 << 60, -1 << 60, nil},
		{math.MinInt, math.MinInt, nil}, {math.MinInt, -1, nil}, {math.MinInt, 0, nil}, {math.MinInt, 1, nil}, {math.MinInt, math.MaxInt, nil},
		{math.MinInt + 1, 0, nil}, {math.MinInt + 10, 0, nil}, {math.MinInt + 20, 5, nil}, {math.MinInt + 20, math.MaxInt, nil},
		// And far behind.
		{lastTime - 1, 0, []int{0, 1, 3, 5}}, {lastTime, 0, []int{0, 1, 3, 5, 6}}, {lastTime, 1, []int{0, 1, 3, 5}}, {lastTime + 1, 1, []int{0, 1, 3, 5, 6}},
		{lastTime, lastTime, []int{5}}, {lastTime, lastTime + 1, nil}, {lastTime + 1, lastTime + 1, []int{5}}, {lastTime + 9, lastTime, []int{5}}, {lastTime + 10, lastTime, []int{0, 5}}, {2 * lastTime, lastTime, []int{0, 1, 3, 5, 6}}, {2*lastTime - 1, lastTime, []int{0, 1, 3, 5}},
		{1 << 60, 0, []int{0, 1, 3, 5, 6}}, {1 << 60, 1 << 60, []int{5}}, {1<<60 + 10, 1 << 60, []int{0, 5}},
		{math.MaxInt, math.MinInt, []int{0, 1, 3, 5, 6}}, {math.MaxInt, -1, []int{0, 1, 3, 5, 6}}, {math.MaxInt, 0, []int{0, 1, 3, 5, 6}}, {math.MaxInt, 1, []int{0, 1, 3, 5, 6}},
		{math.MaxInt, math.MaxInt, []int{5}}, {math.MaxInt - 1, math.MaxInt, nil}, {math.MaxInt, math.MaxInt - 10, []int{0, 5}}, {math.MaxInt, math.MaxInt - 11, []int{0, 5}}, {math.MaxInt, math.MaxInt - 9, []int{5}}, {math.MaxInt - 1, math.MaxInt - 1, []int{5}},
		{1<<32 + 5, 1 << 32, []int{5}}, {1<<32 + 10, 1 << 32, []int{0, 5}},
	} {
		for _, room := range []int{7, 64} {
			x := table(t, room)
			for _, e := range all {
				if e.Fixed {
					fix(t, x, e.Vlan, e.Mac, e.Port)
				} else {
					learn(t, x, e.Vlan, e.Mac, e.Port, e.Heard)
				}
			}
			if n := x.Age(y.now, y.long); n != len(y.goes) {
				t.Errorf("Age(%d, %d): %d, want %d", y.now, y.long, n, len(y.goes))
			}
			var want []Entry
			for at, e := range all {
				if !slices.Contains(y.goes, at) {
					want = append(want, e)
				}
			}
			holds(t, x, 5, want...)
			if n := x.Age(y.now, y.long); n != 0 {
				t.Errorf("Age(%d, %d), again: %d", y.now, y.long, n)
			}
			holds(t, x, 5, want...)
		}
	}
}

// P7.2: what was heard again ages from then on; what was heard earlier, from earlier on.
func TestAgeOfWhatWasHeardAgain(t *testing.T) {
	x := table(t, 3)
	learn(t, x, 1, a, 1, 10)
	learn(t, x, 1, b, 1, 10)
	learn(t, x, 1, c, 1, 10)
	learn(t, x, 1, b, 1, 11)
	learn(t, x, 1, c, 1, 9)
	if n := x.Age(15, 6); n != 1 {
		t.Error(n)
	}
	holds(t, x, 3, heard(1, a, 1, 10), heard(1, b, 1, 11))
	if n := x.Age(16, 6); n != 1 {
		t.Error(n)
	}
	holds(t, x, 3, heard(1, b, 1, 11))
	if n := x.Age(17, 6); n != 1 {
		t.Error(n)
	}
	holds(t, x, 3)
}

// P7.2: only fixed ones stay, however far the time is.
func TestAgeOfFixed(t *testing.T) {
	x := table(t, 64)
	var want []Entry
	for n := range 64 {
		fix(t, x, 1+n, macOf(n), n%16)
		want = append(want, fixed(1+n, macOf(n), n%16))
	}
	for _, now := range append([]int{-1, 0, 1, lastTime}, far...) {
		for _, long := range append([]int{-1, 0, 1, lastTime}, far...) {
			if n := x.Age(now, long); n != 0 {
				t.Errorf("Age(%d, %d): %d", now, long, n)
			}
		}
	}
	holds(t, x, 0, want...)
}

// P7.2: of one VLAN at one port all go, but fixed ones.
func TestFlush(t *testing.T) {
	all := []Entry{heard(1, a, 3, 1), heard(1, b, 3, 2), fixed(1, c, 3), heard(1, d, 4, 1), heard(2, a, 3, 1), fixed(2, b, 3), heard(2, c, 0, 1), heard(4094, a, 15, lastTime)}
	for _, y := range []struct {
		vlan, port int
		goes       []int
	}{
		{1, 3, []int{0, 1}}, {1, 4, []int{3}}, {2, 3, []int{4}}, {2, 0, []int{6}}, {4094, 15, []int{7}},
		{1, 0, nil}, {1, 5, nil}, {1, 15, nil}, {3, 3, nil}, {3, 1, nil}, {4094, 3, nil}, {4093, 15, nil}, {2, 4, nil},
		{0, 3, nil}, {-1, 3, nil}, {4095, 3, nil}, {0, 0, nil}, {1, -1, nil}, {1, 16, nil}, {1, 19, nil}, {2, -1, nil}, {2, 16, nil}, {2, 256, nil}, {257, 3, nil}, {4097, 3, nil},
		{1<<32 + 1, 3, nil}, {1, 1<<32 + 3, nil}, {2, 1 << 32, nil}, {1<<16 + 1, 3, nil}, {1, 1<<16 + 3, nil},
		{math.MinInt, 3, nil}, {math.MaxInt, 3, nil}, {1, math.MinInt, nil}, {1, math.MaxInt, nil}, {math.MinInt, math.MaxInt, nil}, {math.MinInt + 1, 3, nil}, {2, math.MinInt, nil},
	} {
		for _, room := range []int{8, 64} {
			x := table(t, room)
			for _, e := range all {
				if e.Fixed {
					fix(t, x, e.Vlan, e.Mac, e.Port)
				} else {
					learn(t, x, e.Vlan, e.Mac, e.Port, e.Heard)
				}
			}
			if n := x.Flush(y.vlan, y.port); n != len(y.goes) {
				t.Errorf("Flush(%d, %d): %d, want %d", y.vlan, y.port, n, len(y.goes))
			}
			var want []Entry
			for at, e := range all {
				if !slices.Contains(y.goes, at) {
					want = append(want, e)
				}
			}
			holds(t, x, 6, want...)
			if n := x.Flush(y.vlan, y.port); n != 0 {
				t.Errorf("Flush(%d, %d), again: %d", y.vlan, y.port, n)
			}
			holds(t, x, 6, want...)
		}
	}
}

// P7.2: what was moved goes with its new port.
func TestFlushOfMoved(t *testing.T) {
	x := table(t, 2)
	learn(t, x, 1, a, 3, 1)
	learn(t, x, 1, b, 3, 1)
	learn(t, x, 1, a, 4, 1)
	if n := x.Flush(1, 3); n != 1 {
		t.Error(n)
	}
	holds(t, x, 3, heard(1, a, 4, 1))
	if n := x.Flush(1, 4); n != 1 {
		t.Error(n)
	}
	holds(t, x, 3)
}

// rising are places, told by hand in the order in which List tells them.
var rising = []Entry{
	heard(1, "\x00\x00\x00\x00\x00\x00", 15, 9), heard(1, "\x00\x00\x00\x00\x00\x01", 14, 8), heard(1, "\x00\x00\x00\x00\x00\x7f", 13, 7), heard(1, "\x00\x00\x00\x00\x00\x80", 12, 6), heard(1, "\x00\x00\x00\x00\x00\xff", 11, 5),
	heard(1, "\x00\x00\x00\x00\x01\x00", 10, 4), heard(1, "\x00\x7f\xff\xff\xff\xff", 9, 3), fixed(1, "\x00\x80\x00\x00\x00\x00", 8), heard(1, "\x00\xc3\xa4\x00\x00\x00", 8, 2), heard(1, "\x02\x00\x00\x00\x00\x00", 7, 1),
	heard(1, "\x7e\x00\x00\x00\x00\x00", 6, 0), heard(1, "\x80\x00\x00\x00\x00\x00", 5, 99), fixed(1, "\xfe\xff\xff\xff\xff\xff", 4),
	heard(2, "\x00\x00\x00\x00\x00\x00", 3, 98), heard(2, "\xfe\xff\xff\xff\xff\xff", 2, 97), fixed(9, a, 1), heard(10, a, 0, 96), heard(11, a, 0, 95), heard(100, a, 0, 94),
	heard(255, "\x80\x00\x00\x00\x00\x00", 0, 93), heard(256, "\x00\x00\x00\x00\x00\x00", 0, 92), heard(1000, a, 0, 91), heard(4094, "\x00\x00\x00\x00\x00\x00", 0, 90), heard(4094, "\xfe\x00\x00\x00\x00\x00", 0, lastTime),
}

// P7.2: by rising VLANs, then addresses, in whatever order they came.
func TestList(t *testing.T) {
	r := rand.New(rand.NewSource(7))
	for range 100 {
		x := table(t, len(rising))
		for _, at := range r.Perm(len(rising)) {
			if e := rising[at]; e.Fixed {
				fix(t, x, e.Vlan, e.Mac, e.Port)
			} else {
				learn(t, x, e.Vlan, e.Mac, e.Port, e.Heard)
			}
		}
		holds(t, x, 21, rising...)
	}
}

// P7.2: an answer is the caller's: what is done to it changes nothing in the table, nor in another answer.
func TestListIsNew(t *testing.T) {
	x := table(t, 3)
	learn(t, x, 1, a, 1, 5)
	fix(t, x, 2, b, 2)
	want := []Entry{heard(1, a, 1, 5), fixed(2, b, 2)}
	l, other := x.List(), x.List()
	l[0], l[1] = fixed(7, c, 7), heard(8, d, 8, 8)
	_ = append(l[:1], heard(9, d, 9, 9))
	for _, e := range l[:cap(l)][len(l):] {
		if e != (Entry{}) {
			t.Errorf("behind the list stands %#v", e)
		}
	}
	l = append(l[:0], slices.Repeat([]Entry{fixed(6, d, 6)}, cap(l))...)
	if !slices.Equal(other, want) {
		t.Errorf("another answer is %#v", other)
	}
	holds(t, x, 1, want...)
	// And what the table does changes nothing in an answer.
	learn(t, x, 1, a, 9, 9)
	x.Drop(2, b)
	if !slices.Equal(other, want) || len(l) < 2 || l[0] != fixed(6, d, 6) {
		t.Errorf("an answer became %#v, %#v", other, l)
	}
}

// P7.1: what is made of a longer text, or of bytes that change, is that address still.
func TestAddressOfALongerText(t *testing.T) {
	x := table(t, 2)
	bytes := []byte("xx" + a + "yy")
	learn(t, x, 1, string(bytes)[2:8], 1, 5)
	long := strings.Repeat(b, 3)
	fix(t, x, 1, long[6:12], 2)
	for at := range bytes {
		bytes[at] = 0
	}
	holds(t, x, 1, heard(1, a, 1, 5), fixed(1, b, 2))
}

// P7.2: what counts as learned.
func TestLearned(t *testing.T) {
	x := table(t, 2)
	step := func(name string, want int) {
		t.Helper()
		for range 2 { // asking changes nothing
			if n := x.Learned(); n != want {
				t.Errorf("%s: %d, want %d", name, n, want)
			}
		}
	}
	step("nothing yet", 0)
	learn(t, x, 1, a, 1, 5)
	step("newly", 1)
	learn(t, x, 1, a, 1, 6)
	learn(t, x, 1, a, 1, 6)
	learn(t, x, 1, a, 1, 3)
	step("again", 1)
	learn(t, x, 1, a, 2, 6)
	step("moved", 2)
	learn(t, x, 1, a, 0, 6)
	step("moved to 0", 3)
	learn(t, x, 1, a, 1, 1)
	step("moved back", 4)
	learn(t, x, 2, a, 1, 7)
	step("in another VLAN", 5)
	learn(t, x, 2, b, 1, 8)
	step("for which one went", 6)
	learn(t, x, 1, a, 1, 9)
	step("again behind it went", 7)
	holds(t, x, 7, heard(1, a, 1, 9), heard(2, b, 1, 8))
	x.Drop(1, a)
	step("dropped", 7)
	learn(t, x, 1, a, 1, 10)
	step("again behind it was dropped", 8)
	x.Age(10, 0)
	step("aged", 8)
	learn(t, x, 1, a, 1, 10)
	step("again behind it aged", 9)
	x.Flush(1, 1)
	step("flushed", 9)
	learn(t, x, 1, a, 1, 10)
	step("again behind it was flushed", 10)
	x.Learn(0, a, 2, 10)
	x.Learn(1, a, 16, 10)
	x.Learn(1, a, 2, -1)
	x.Learn(1, "", 2, 10)
	x.Learn(1, "\x01aaaaa", 2, 10)
	step("refused", 10)
	fix(t, x, 1, a, 3)
	fix(t, x, 1, b, 3)
	fix(t, x, 1, a, 4)
	x.Fix(1, c, 4)
	step("fixed", 10)
	learn(t, x, 1, a, 5, 11)
	learn(t, x, 1, a, 4, 11)
	step("where a fixed one stands", 10)
	learn(t, x, 1, c, 5, 11)
	learn(t, x, 2, a, 5, 11)
	step("full of fixed ones", 10)
	x.Drop(1, a)
	learn(t, x, 1, a, 4, 12)
	step("where a fixed one stood", 11)
	x.List()
	x.Find(1, a)
	step("asked", 11)
}

// P7.3: VLANs know nothing of each other.
func TestVlansApart(t *testing.T) {
	x := table(t, 64)
	var want []Entry
	for vlan := 1; vlan <= 30; vlan++ {
		learn(t, x, vlan, a, vlan%16, vlan)
		want = append(want, heard(vlan, a, vlan%16, vlan))
	}
	holds(t, x, 30, want...)
	learn(t, x, 7, a, 15, 99)
	want[6] = heard(7, a, 15, 99)
	fix(t, x, 8, a, 14)
	want[7] = fixed(8, a, 14)
	holds(t, x, 31, want...)
	if e := x.Drop(9, a); e != api.OK {
		t.Error(e)
	}
	if n := x.Flush(10, 10); n != 1 {
		t.Error(n)
	}
	want = slices.Delete(want, 8, 10)
	holds(t, x, 31, want...)
}

// model is a table as the chapter tells it, a row of entries in no order.
type model struct {
	room    int
	row     []Entry
	learned int
}

func (m *model) at(vlan int, mac string) int {
	return slices.IndexFunc(m.row, func(e Entry) bool { return e.Vlan == vlan && e.Mac == mac })
}

func (m *model) wrong(vlan int, mac string, port, now int) api.Errno {
	if vlan < 1 || vlan > 4094 || port < 0 || port > 15 || now < 0 || now > 1099511627776 {
		return api.ErrRange
	}
	if len(mac) != 6 || mac[0]%2 == 1 {
		return api.ErrForm
	}
	return api.OK
}

func (m *model) learn(vlan int, mac string, port, now int) api.Errno {
	if e := m.wrong(vlan, mac, port, now); e != api.OK {
		return e
	}
	if at := m.at(vlan, mac); at >= 0 {
		if e := &m.row[at]; !e.Fixed {
			m.learned += number(e.Port != port)
			e.Port, e.Heard = port, now
		}
		return api.OK
	}
	if len(m.row) == m.room {
		goes := -1
		for at, e := range m.row {
			if !e.Fixed && (goes < 0 || e.Heard < m.row[goes].Heard || e.Heard == m.row[goes].Heard && byPlace(e, m.row[goes]) < 0) {
				goes = at
			}
		}
		if goes < 0 {
			return api.OK
		}
		m.row = slices.Delete(m.row, goes, goes+1)
	}
	m.row = append(m.row, heard(vlan, mac, port, now))
	m.learned++
	return api.OK
}

func (m *model) fix(vlan int, mac string, port int) api.Errno {
	if e := m.wrong(vlan, mac, port, 0); e != api.OK {
		return e
	}
	if at := m.at(vlan, mac); at >= 0 {
		m.row[at] = fixed(vlan, mac, port)
		return api.OK
	}
	if len(m.row) == m.room {
		return api.ErrFull
	}
	m.row = append(m.row, fixed(vlan, mac, port))
	return api.OK
}

func (m *model) goes(which func(Entry) bool) int {
	n := len(m.row)
	m.row = slices.DeleteFunc(m.row, func(e Entry) bool { return !e.Fixed && which(e) })
	return n - len(m.row)
}

func (m *model) drop(vlan int, mac string) api.Errno {
	at := m.at(vlan, mac)
	if at < 0 {
		return api.ErrNone
	}
	m.row = slices.Delete(m.row, at, at+1)
	return api.OK
}

func (m *model) list() []Entry {
	l := slices.Clone(m.row)
	slices.SortFunc(l, byPlace)
	return l
}

// P7.1, P7.2, P7.3: long rows of calls, right ones and wrong ones, in tables of one, two, some and 64, each answer held against the model's.
func TestLongRows(t *testing.T) {
	for seed, room := range []int{1, 1, 2, 2, 3, 5, 16, 63, 64, 64, 64} {
		for _, spread := range []int{2, 8, 60} {
			longRow(t, rand.New(rand.NewSource(int64(100*seed+spread))), room, spread)
		}
	}
}

func longRow(t *testing.T, r *rand.Rand, room, spread int) {
	t.Helper()
	x, m := table(t, room), &model{room: room}
	now := 0
	for step := range 3000 {
		vlan, mac, port := 1+r.Intn(3), macOf(r.Intn(spread)), r.Intn(4)
		now += r.Intn(3) - 1 + number(now < 5)
		switch r.Intn(60) { // now and then what is wrong
		case 0:
			vlan = []int{-1, 0, 4095, math.MinInt, math.MaxInt}[r.Intn(5)]
		case 1:
			port = []int{-1, 16, math.MinInt, math.MaxInt}[r.Intn(4)]
		case 2:
			mac = wrongMacs[r.Intn(len(wrongMacs))]
		}
		var got, want any
		switch kind := r.Intn(100); {
		case kind < 60:
			when := now
			if r.Intn(100) == 0 {
				when = []int{-1, lastTime + 1, math.MinInt, math.MaxInt}[r.Intn(4)]
			}
			got, want = x.Learn(vlan, mac, port, when), m.learn(vlan, mac, port, when)
		case kind < 66:
			got, want = x.Fix(vlan, mac, port), m.fix(vlan, mac, port)
		case kind < 78:
			got, want = x.Drop(vlan, mac), m.drop(vlan, mac)
		case kind < 82:
			at, long := now+r.Intn(9)-4, r.Intn(30)-3
			got, want = x.Age(at, long), m.goes(func(e Entry) bool { return e.Heard <= at && at-e.Heard >= long })
		case kind < 84:
			got, want = x.Flush(vlan, port), m.goes(func(e Entry) bool { return e.Vlan == vlan && e.Port == port })
		default:
			p, ok := x.Find(vlan, mac)
			at := m.at(vlan, mac)
			got, want = ok, at >= 0
			if ok && p != m.row[max(at, 0)].Port || !ok && p != 0 {
				t.Fatalf("room %d, step %d: found at %d", room, step, p)
			}
		}
		l := x.List()
		if got != want || !slices.Equal(l, m.list()) || x.Learned() != m.learned {
			t.Fatalf("room %d, spread %d, step %d: %v, want %v; %#v, want %#v; learned %d, want %d", room, spread, step, got, want, l, m.list(), x.Learned(), m.learned)
		}
		rightList(t, l, room)
	}
}

// rightList asks what P7.3 says, of itself.
func rightList(t *testing.T, l []Entry, room int) {
	t.Helper()
	seen := map[string]bool{}
	for _, e := range l {
		key := string(rune(e.Vlan)) + e.Mac
		if seen[key] {
			t.Fatalf("%x of VLAN %d stands twice", e.Mac, e.Vlan)
		}
		seen[key] = true
	}
	if len(l) > room {
		t.Fatalf("%d entries in a table of %d", len(l), room)
	}
}

// P7.3: what is asked and told of one VLAN, with room for all, is answered as if the others weren't there.
func TestVlansKnowNothingOfEachOther(t *testing.T) {
	r := rand.New(rand.NewSource(73))
	both, alone := table(t, 64), map[int]*Table{1: table(t, 64), 2: table(t, 64), 4094: table(t, 64)}
	for range 20000 {
		vlan, mac, port, now := []int{1, 2, 4094}[r.Intn(3)], macOf(r.Intn(20)), r.Intn(16), r.Intn(50)
		x := alone[vlan]
		switch r.Intn(9) {
		case 0:
			if e, g := both.Fix(vlan, mac, port), x.Fix(vlan, mac, port); e != g {
				t.Fatalf("Fix: %v, alone %v", e, g)
			}
		case 1, 2:
			if e, g := both.Drop(vlan, mac), x.Drop(vlan, mac); e != g {
				t.Fatalf("Drop: %v, alone %v", e, g)
			}
		case 3:
			if n, k := both.Flush(vlan, port), x.Flush(vlan, port); n != k {
				t.Fatalf("Flush: %d, alone %d", n, k)
			}
		default:
			learn(t, both, vlan, mac, port, now)
			learn(t, x, vlan, mac, port, now)
		}
		learned := 0
		for _, y := range alone {
			learned += y.Learned()
		}
		if got, want := both.List(), slices.Concat(alone[1].List(), alone[2].List(), alone[4094].List()); !slices.Equal(got, want) || both.Learned() != learned {
			t.Fatalf("%#v, alone %#v", got, want)
		}
	}
}
