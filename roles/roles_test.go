package roles

import (
	"math"
	"math/rand"
	"slices"
	"testing"

	"treebridge/api"
)

// The numbers are told by hand, not taken from the package.
const (
	top = 4294967295 // the greatest cost
	all = math.MaxUint64

	own     = 0x8001000000000009 // the bridge that is asked, of the address 9
	renamed = 0xf002000000000009 // of its address, with another priority and in another VLAN
	ahead   = 0x0000000000000009 // the same, lesser
	lesser  = 0x8001000000000003 // of another address, ahead of own
	greater = 0x800100000000000c // of another address, behind own
	far     = 0x1001000000000001 // a root that is better than own
	farther = 0x1001000000000002 // another one, not as good
)

func heard(id, cost, root, rootCost, bridge, port uint64) Info {
	return Info{Id: id, Cost: cost, Source: 3, Vector: api.Vector{Root: root, Cost: rootCost, Bridge: bridge, Port: port}}
}

func off(id uint64) Info  { return Info{Id: id, Cost: 10} }
func aged(id uint64) Info { return Info{Id: id, Cost: 10, Source: 1} }
func mine(id uint64) Info { return Info{Id: id, Cost: 10, Source: 2} }

func vec(root, cost, bridge, port uint64) api.Vector {
	return api.Vector{Root: root, Cost: cost, Bridge: bridge, Port: port}
}

// itself is the root vector of own, if it is the root.
var itself = vec(own, 0, own, 0)

// checkSelect asks for an answer; what each port offers hangs on the root vector.
func checkSelect(t *testing.T, name string, bridge uint64, l []Info, root api.Vector, port int, roles ...int) {
	t.Helper()
	if !Right(l) {
		t.Errorf("%s: %#v isn't right", name, l)
	}
	r, e := Select(bridge, l)
	if e != api.OK || r.Root != root || r.Port != port || !slices.Equal(r.Roles, roles) {
		t.Errorf("%s: %#v %v, want %#v, port %d, roles %v", name, r, e, root, port, roles)
	}
	var offers []api.Vector
	for _, p := range l {
		offers = append(offers, vec(root.Root, root.Cost, bridge, p.Id))
	}
	if !slices.Equal(r.Offers, offers) {
		t.Errorf("%s: offers %#v, want %#v", name, r.Offers, offers)
	}
}

// checkRefused asks that l is wrong, and that nothing is answered beside the error.
func checkRefused(t *testing.T, name string, l []Info) {
	t.Helper()
	if Right(l) {
		t.Errorf("%s: right", name)
	}
	for _, bridge := range []uint64{0, own, all} {
		r, e := Select(bridge, l)
		if e != api.ErrForm || r.Root != (api.Vector{}) || r.Port != 0 || len(r.Roles) != 0 || len(r.Offers) != 0 {
			t.Errorf("%s: %#v %v, want ErrForm alone", name, r, e)
		}
	}
}

// P8.1
func TestMine(t *testing.T) {
	for _, bridge := range []uint64{0, 1, 5, own, renamed, 1 << 48, 1<<48 - 1, 1 << 63, all} {
		if v := Mine(bridge); v != vec(bridge, 0, bridge, 0) {
			t.Errorf("Mine(%x): %#v", bridge, v)
		}
	}
}

// P8.1, P8.2
func TestNoPort(t *testing.T) {
	for _, bridge := range []uint64{0, 1, own, all} {
		for _, l := range [][]Info{nil, {}, make([]Info, 0, 20)} {
			checkSelect(t, "no port", bridge, l, vec(bridge, 0, bridge, 0), -1)
		}
	}
}

// P8.1: one port only.
func TestOnePort(t *testing.T) {
	checkSelect(t, "off", own, []Info{off(1)}, itself, -1, 0)
	checkSelect(t, "aged", own, []Info{aged(1)}, itself, -1, 2)
	checkSelect(t, "mine", own, []Info{mine(1)}, itself, -1, 2)
	for _, c := range []struct {
		name string
		port Info
		root api.Vector
		at   int
		role int
	}{
		{"a better root", heard(1, 10, far, 5, greater, 7), vec(far, 15, greater, 7), 0, 1},
		{"the better root itself", heard(1, 10, far, 0, far, 7), vec(far, 10, far, 7), 0, 1},
		{"a better root, for nothing", heard(1, 0, far, 0, far, 7), vec(far, 0, far, 7), 0, 1},
		{"a better root at the greatest cost", heard(1, top, far, 0, far, 7), vec(far, top, far, 7), 0, 1},
		{"a worse root", heard(1, 10, greater, 0, greater, 7), itself, -1, 2},
		{"a worse root, of a bridge that is ahead", heard(1, 10, greater, 0, lesser, 7), itself, -1, 2},
		{"own as root, at a cost", heard(1, 10, own, 4, lesser, 7), itself, -1, 2},
		{"own as root, for nothing, of a bridge behind", heard(1, 10, own, 0, greater, 7), itself, -1, 2},
		{"own as root, for nothing, of a bridge ahead: no way is better, but what was heard is", heard(1, 10, own, 0, lesser, 7), itself, -1, 3},
		{"the same by a way that costs nothing: it is better than the own vector", heard(1, 0, own, 0, lesser, 7), vec(own, 0, lesser, 7), 0, 1},
		{"own as root, for nothing, of a bridge behind, by a way that costs nothing", heard(1, 0, own, 0, greater, 7), itself, -1, 2},
		{"a root with own's address, that is better", heard(1, 10, ahead, 0, greater, 7), vec(ahead, 10, greater, 7), 0, 1},
		{"a zero vector", heard(1, 10, 0, 0, 0, 0), vec(0, 10, 0, 0), 0, 1},
		{"all ones", heard(65535, top, all, top, all, all), itself, -1, 2},
	} {
		checkSelect(t, c.name, own, []Info{c.port}, c.root, c.at, c.role)
	}
}

// P8.1: a zero vector is heard of the bridge 0's own address.
func TestZeroBridge(t *testing.T) {
	checkSelect(t, "its own", 0, []Info{heard(1, 0, 0, 0, 0, 0)}, api.Vector{}, -1, 4)
	checkSelect(t, "its own, with a port", 0, []Info{heard(1, 0, 0, 0, 0, 1)}, api.Vector{}, -1, 4)
	checkSelect(t, "its own, with a port behind", 0, []Info{heard(1, 0, 0, 0, 0, 2)}, api.Vector{}, -1, 2)
	checkSelect(t, "its address", 0, []Info{heard(1, 0, 0, 0, 0x8001000000000000, 2)}, api.Vector{}, -1, 2)
}

// P8.1, P8.2: nothing heard.
func TestNothingHeard(t *testing.T) {
	checkSelect(t, "of each source", own, []Info{off(4), aged(3), mine(2), off(1)}, itself, -1, 0, 2, 2, 0)
	checkSelect(t, "all off", own, []Info{off(1), off(2), off(3)}, itself, -1, 0, 0, 0)
	var l []Info
	for n := range 16 {
		l = append(l, mine(uint64(16-n)))
	}
	checkSelect(t, "sixteen", own, l, itself, -1, slices.Repeat([]int{2}, 16)...)
}

// P8.1: ports that heard nothing beside a root port are designated, or off, and offer the root's way.
func TestBesideARootPort(t *testing.T) {
	l := []Info{aged(1), off(2), heard(3, 10, far, 5, lesser, 7), mine(4), off(5), aged(6)}
	checkSelect(t, "beside", own, l, vec(far, 15, lesser, 7), 2, 2, 0, 1, 2, 0, 2)
}

// P8.1: what the bridge sent itself, under whatever priority and in whatever VLAN, is no way, however good it is.
func TestHeardOwnBridge(t *testing.T) {
	checkSelect(t, "two ports, one behind the other", own, []Info{heard(1, 1, own, 0, own, 2), heard(2, 1, own, 0, own, 1)}, itself, -1, 2, 4)
	for _, bridge := range []uint64{own, renamed, ahead} {
		checkSelect(t, "a better root", own, []Info{heard(1, 10, far, 0, bridge, 7)}, itself, -1, 4)
		checkSelect(t, "a better root, beside a way", own, []Info{heard(1, 10, far, 0, bridge, 7), heard(2, 10, farther, 0, greater, 7)}, vec(farther, 10, greater, 7), 1, 4, 1)
		checkSelect(t, "a worse root", own, []Info{heard(1, 10, greater, 0, bridge, 7)}, itself, -1, 2)
		checkSelect(t, "at a cost", own, []Info{heard(1, 10, own, 1, bridge, 7)}, itself, -1, 2)
	}
	// A lesser number of the same address is better than what is offered; a greater one isn't.
	checkSelect(t, "renamed", own, []Info{heard(1, 0, own, 0, renamed, 0)}, itself, -1, 2)
	checkSelect(t, "ahead", own, []Info{heard(1, 0, own, 0, ahead, 65535)}, itself, -1, 4)
	// In another VLAN, or of another priority, it is another root, but the same sender.
	checkSelect(t, "as root", own, []Info{heard(1, 10, ahead, 0, ahead, 7)}, itself, -1, 4)
	checkSelect(t, "as a worse root", own, []Info{heard(1, 10, renamed, 0, renamed, 7)}, itself, -1, 2)
}

// P8.1: each bit of the address tells another bridge, each bit above it doesn't.
func TestEachBitOfTheBridge(t *testing.T) {
	for bit := range 64 {
		sender := uint64(own) ^ 1<<bit
		if bit < 48 {
			checkSelect(t, "another address", own, []Info{heard(1, 10, far, 0, sender, 7)}, vec(far, 10, sender, 7), 0, 1)
		} else {
			checkSelect(t, "the own address", own, []Info{heard(1, 10, far, 0, sender, 7)}, itself, -1, 4)
		}
	}
}

// P8.1: a vector that is the same as the own one is of the own bridge, so no way; nor is it designated, as what is offered has a port.
func TestSameAsTheOwnVector(t *testing.T) {
	checkSelect(t, "the same", own, []Info{heard(1, 0, own, 0, own, 0)}, itself, -1, 4)
	checkSelect(t, "the same, at a cost", own, []Info{heard(1, 10, own, 0, own, 0)}, itself, -1, 4)
	checkSelect(t, "the same, twice", own, []Info{heard(2, 0, own, 0, own, 0), heard(1, 0, own, 0, own, 0)}, itself, -1, 4, 4)
	checkSelect(t, "the same but for the bridge's priority", own, []Info{heard(1, 0, own, 0, renamed, 0), heard(2, 0, own, 0, ahead, 0)}, itself, -1, 2, 4)
}

// P8.1: what is offered is better by its port alone; the same isn't better.
func TestOfferAgainstHeard(t *testing.T) {
	for _, c := range []struct {
		id, port uint64
		role     int
	}{
		{5, 6, 2}, {5, 5, 4}, {5, 4, 4}, {1, 2, 2}, {1, 1, 4}, {1, 0, 4}, {65535, 65535, 4}, {65535, 65536, 2}, {65535, all, 2}, {0x8001, 0x1fff, 4}, {0x1fff, 0x8001, 2},
	} {
		checkSelect(t, "of the own bridge", own, []Info{heard(c.id, 10, own, 0, own, c.port)}, itself, -1, c.role)
		l := []Info{heard(c.id, 10, far, 10, own, c.port), heard(77, 4, far, 6, lesser, 3)}
		checkSelect(t, "of the own bridge, below a root", own, l, vec(far, 10, lesser, 3), 1, c.role, 1)
	}
}

// P8.1: below a root, each of the numbers decides whether what is offered is better than what was heard.
func TestDesignatedOrAlternate(t *testing.T) {
	way := heard(9, 5, far, 5, far, 9) // what is offered then: far, 10, own, and the port
	for _, c := range []struct {
		name string
		port Info
		role int
	}{
		{"a worse root", heard(1, 90, farther, 0, lesser, 1), 2},
		{"the bridge is the root", heard(1, 90, own, 0, lesser, 1), 2},
		{"a greater cost", heard(1, 90, far, 11, lesser, 1), 2},
		{"the same cost, a bridge behind", heard(1, 90, far, 10, greater, 1), 2},
		{"the same cost, a bridge ahead", heard(1, 90, far, 10, lesser, 65535), 3},
		{"a lesser cost", heard(1, 90, far, 9, greater, 65535), 3},
		{"a lesser cost, the own bridge", heard(1, 90, far, 9, own, 65535), 4},
		{"a lesser cost, the own address", heard(1, 90, far, 9, renamed, 65535), 4},
		{"a greater cost, the own bridge", heard(1, 90, far, 11, own, 0), 2},
		{"the same cost, the own bridge, a port behind", heard(1, 90, far, 10, own, 2), 2},
		{"the same cost, the own bridge, the same port", heard(1, 90, far, 10, own, 1), 4},
		{"a better root, the own bridge", heard(1, 90, farther-1, 9, own, 1), 4},
		{"the lesser bridge by 32 bits, that is a greater one", heard(1, 90, far, 10, 0x8001000100000001, 1), 2},
		{"the root itself, by a way that costs more", heard(1, 90, far, 0, far, 2), 3},
	} {
		checkSelect(t, c.name, own, []Info{c.port, way}, vec(far, 10, far, 9), 1, c.role, 1)
		checkSelect(t, c.name, own, []Info{way, c.port}, vec(far, 10, far, 9), 0, 1, c.role)
	}
}

// P8.1: the first number in which ways differ decides, raised by the ports' costs, whatever those behind it are.
func TestBestWay(t *testing.T) {
	for _, c := range []struct {
		name        string
		best, worse Info
		role        int // of the worse one
	}{
		{"by the root", heard(9, 90, far, 90, greater, 9), heard(1, 0, farther, 0, lesser, 1), 2},
		{"by the cost", heard(9, 4, far, 5, greater, 9), heard(1, 5, far, 5, lesser, 1), 3},
		{"by the cost that was heard", heard(9, 5, far, 4, greater, 9), heard(1, 5, far, 5, lesser, 1), 3},
		{"by the sum, not by what was heard", heard(9, 1, far, 50, greater, 9), heard(1, 100, far, 1, lesser, 1), 3},
		{"by the sum, not by the port's", heard(9, 100, far, 1, greater, 9), heard(1, 1, far, 101, lesser, 1), 3},
		{"by the sum, and what is offered is better", heard(9, 1, far, 1, greater, 9), heard(1, 1, far, 9, lesser, 1), 2},
		{"by the bridge", heard(9, 5, far, 5, lesser, 9), heard(1, 5, far, 5, greater, 1), 3},
		{"by the bridge, with the sum alone the same", heard(9, 1, far, 9, lesser, 9), heard(1, 9, far, 1, greater, 1), 3},
		{"by the port that sent", heard(9, 5, far, 5, lesser, 2), heard(1, 5, far, 5, lesser, 3), 3},
		{"by the port that sent, with the sum alone the same", heard(9, 5, far, 5, lesser, 2), heard(1, 4, far, 6, lesser, 3), 3},
		{"by the priority of the port that sent", heard(9, 5, far, 5, lesser, 0x1fff), heard(1, 5, far, 5, lesser, 0x2001), 3},
		{"by the own port", heard(1, 5, far, 5, lesser, 2), heard(2, 5, far, 5, lesser, 2), 3},
		{"by the own port, with the sum alone the same", heard(1, 9, far, 1, lesser, 2), heard(2, 1, far, 9, lesser, 2), 3},
		{"by the own port's priority", heard(0x1fff, 5, far, 5, lesser, 2), heard(0x2001, 5, far, 5, lesser, 2), 3},
		{"by the own port, the least and the greatest", heard(1, 5, far, 5, lesser, 2), heard(65535, 5, far, 5, lesser, 2), 3},
	} {
		root := c.best.Vector
		root.Cost += c.best.Cost
		checkSelect(t, c.name, own, []Info{c.best, c.worse}, root, 0, 1, c.role)
		checkSelect(t, c.name, own, []Info{c.worse, c.best}, root, 1, c.role, 1)
		checkSelect(t, c.name, own, []Info{off(100), c.worse, mine(101), c.best, aged(102)}, root, 3, 0, c.role, 2, 1, 2)
	}
}

// P8.1: of many ways that are the same, in whatever order, it is the one by the port of the least Id.
func TestSameWays(t *testing.T) {
	r := rand.New(rand.NewSource(8))
	for range 200 {
		var l []Info
		least := r.Intn(16)
		roles := slices.Repeat([]int{3}, 16)
		roles[least] = 1
		for at, n := range r.Perm(16) {
			l = append(l, heard(uint64(10+n), uint64(n), far, uint64(30-n), lesser, 2))
			if at == least {
				l[at].Id = 9
			}
		}
		checkSelect(t, "sixteen", own, l, vec(far, 30, lesser, 2), least, roles...)
	}
}

// P8.1: a way's cost comes to 2^32 - 1 at most, at which ways are told apart by what stands behind it.
func TestGreatestCost(t *testing.T) {
	for _, c := range []struct{ cost, heard uint64 }{{top, top}, {top, 0}, {0, top}, {top, 1}, {1, top}, {1 << 31, 1 << 31}, {1<<31 - 1, 1 << 31}} {
		checkSelect(t, "one", own, []Info{heard(1, c.cost, far, c.heard, lesser, 2)}, vec(far, top, lesser, 2), 0, 1)
	}
	checkSelect(t, "by the bridge", own, []Info{heard(1, top, far, 0, greater, 2), heard(2, top, far, top, lesser, 2)}, vec(far, top, lesser, 2), 1, 3, 1)
	checkSelect(t, "by the own port", own, []Info{heard(2, top, far, 1, lesser, 2), heard(1, 2, far, top, lesser, 2)}, vec(far, top, lesser, 2), 1, 3, 1)
	checkSelect(t, "one below", own, []Info{heard(1, top, far, 0, lesser, 2), heard(2, top-1, far, 0, greater, 2)}, vec(far, top-1, greater, 2), 1, 3, 1)
}

// P8.1: what may be, at the edges.
func TestRight(t *testing.T) {
	for _, id := range []uint64{1, 2, 255, 256, 0x1000, 0x8001, 0xf000, 65534, 65535} {
		for _, cost := range []uint64{0, 1, 1 << 31, top - 1, top} {
			for source := range 3 {
				if l := []Info{{Id: id, Cost: cost, Source: source}}; !Right(l) {
					t.Errorf("%#v isn't right", l)
				}
			}
			for _, v := range []api.Vector{{}, vec(all, 0, 0, 0), vec(0, top, 0, 0), vec(0, top-1, 0, 0), vec(0, 0, all, 0), vec(0, 0, 0, all), vec(all, top, all, all)} {
				if l := []Info{{Id: id, Cost: cost, Source: 3, Vector: v}}; !Right(l) {
					t.Errorf("%#v isn't right", l)
				}
			}
		}
	}
	for n := range 17 {
		if !Right(sixteen()[:n]) {
			t.Errorf("%d ports aren't right", n)
		}
	}
}

// sixteen are right ports, of each source.
func sixteen() []Info {
	var l []Info
	for n := range uint64(4) {
		l = append(l, off(40+n), aged(30+n), mine(20+n), heard(10+n, n, far, n, lesser, n))
	}
	return l
}

// wrongPorts are each wrong by one thing.
var wrongPorts = []Info{
	{}, {Source: 1}, {Source: 2}, {Source: 3}, {Id: 65536}, {Id: 65537}, {Id: 1 << 32}, {Id: 1<<32 + 1}, {Id: 1 << 48}, {Id: 1 << 63}, {Id: all}, {Id: all - 65534},
	heard(0, 1, far, 1, lesser, 1), heard(65536, 1, far, 1, lesser, 1), heard(all, 1, far, 1, lesser, 1),
	{Id: 1, Cost: top + 1}, {Id: 1, Cost: top + 2, Source: 1}, {Id: 1, Cost: 1 << 33, Source: 2}, {Id: 1, Cost: 1 << 63}, {Id: 1, Cost: all, Source: 3},
	heard(1, top+1, far, 1, lesser, 1), heard(1, all, far, 1, lesser, 1), heard(1, all-top, far, 1, lesser, 1),
	{Id: 1, Source: -1}, {Id: 1, Source: 4}, {Id: 1, Source: 5}, {Id: 1, Source: 256}, {Id: 1, Source: 259}, {Id: 1, Source: 1 << 32}, {Id: 1, Source: 1<<32 + 3},
	{Id: 1, Source: math.MinInt}, {Id: 1, Source: math.MinInt + 3}, {Id: 1, Source: math.MaxInt}, {Id: 1, Source: -1, Vector: vec(far, 1, lesser, 1)}, {Id: 1, Source: 4, Vector: vec(far, 1, lesser, 1)},
	heard(1, 0, far, top+1, lesser, 1), heard(1, 0, far, 1<<33, lesser, 1), heard(1, 0, 0, all, 0, 0), heard(1, 0, far, 1<<63, own, 1),
	{Id: 1, Vector: vec(1, 0, 0, 0)}, {Id: 1, Vector: vec(0, 1, 0, 0)}, {Id: 1, Vector: vec(0, 0, 1, 0)}, {Id: 1, Vector: vec(0, 0, 0, 1)}, {Id: 1, Vector: vec(1<<63, 0, 0, 0)},
	{Id: 1, Source: 1, Vector: vec(1, 0, 0, 0)}, {Id: 1, Source: 1, Vector: vec(0, 1, 0, 0)}, {Id: 1, Source: 1, Vector: vec(0, 0, 1, 0)}, {Id: 1, Source: 1, Vector: vec(0, 0, 0, 1)},
	{Id: 1, Source: 2, Vector: vec(1, 0, 0, 0)}, {Id: 1, Source: 2, Vector: vec(0, 1, 0, 0)}, {Id: 1, Source: 2, Vector: vec(0, 0, 1, 0)}, {Id: 1, Source: 2, Vector: vec(0, 0, 0, 1)},
	{Id: 1, Source: 2, Vector: vec(own, 0, own, 1)}, {Id: 1, Source: 1, Vector: vec(far, 5, lesser, 1)}, {Id: 1, Vector: vec(far, 5, lesser, 1)},
}

// P8.1: one wrong port is refused, alone, and at each place among right ones.
func TestWrongPorts(t *testing.T) {
	for _, p := range wrongPorts {
		checkRefused(t, "alone", []Info{p})
		for at := range 16 {
			l := sixteen()
			l[at] = p
			checkRefused(t, "among others", l)
		}
	}
}

// P8.1: an Id that stands twice is refused, whatever else its ports are.
func TestIdTwice(t *testing.T) {
	for first := range 16 {
		for second := range 16 {
			l := sixteen()
			l[first].Id = l[second].Id
			if first != second {
				checkRefused(t, "twice", l)
			}
		}
	}
	checkRefused(t, "at the edge", []Info{mine(65535), off(3), aged(65535)})
	// The lower 12 bits alone may be the same.
	checkSelect(t, "another priority", own, []Info{mine(0x1001), mine(0x2001), mine(0x0001)}, itself, -1, 2, 2, 2)
}

// P8.1: more than 16 ports are refused.
func TestTooMany(t *testing.T) {
	for _, n := range []int{17, 18, 32, 100, 256, 1000, 65536} {
		l := make([]Info, n)
		for at := range l {
			l[at].Id = uint64(1 + at%65535)
		}
		checkRefused(t, "too many", l)
		checkRefused(t, "too many, all zero", make([]Info, n))
	}
}

// P8.1: what is handed in stays as it is, its spare room too, and each answer is the caller's.
func TestApart(t *testing.T) {
	room := append(sixteen(), sixteen()...)
	l, before := room[4:12], slices.Clone(room)
	first, e := Select(own, l)
	if e != api.OK || !slices.Equal(room, before) {
		t.Fatalf("%v, and was handed %#v", e, room)
	}
	second, _ := Select(own, l)
	for at := range l {
		first.Roles[at], first.Offers[at] = 77, vec(7, 7, 7, 7)
	}
	first.Roles = append(first.Roles, 78)
	first.Offers = append(first.Offers, vec(8, 8, 8, 8))
	third, _ := Select(own, l)
	if !slices.Equal(room, before) || !slices.Equal(second.Roles, third.Roles) || !slices.Equal(second.Offers, third.Offers) {
		t.Errorf("%#v, behind it %#v, of %#v", second, third, room)
	}
	clear(l)
	if !slices.Equal(second.Roles, third.Roles) || !slices.Equal(second.Offers, third.Offers) || third.Offers[0].Port == 0 {
		t.Errorf("an answer became %#v", third)
	}
}

// model answers what the chapter says, by rows of numbers: a way's four, and behind them the own port's Id and its place.
func model(bridge uint64, l []Info) (api.Vector, int, []int) {
	rows := [][]uint64{{bridge, 0, bridge, 0, 0, 99}}
	for at, p := range l {
		if p.Source == 3 && p.Vector.Bridge<<16 != bridge<<16 {
			rows = append(rows, []uint64{p.Vector.Root, min(p.Vector.Cost+p.Cost, top), p.Vector.Bridge, p.Vector.Port, p.Id, uint64(at)})
		}
	}
	best := slices.MinFunc(rows, slices.Compare)
	port := int(best[5])
	if port == 99 {
		port = -1
	}
	var roles []int
	for at, p := range l {
		offer, v := []uint64{best[0], best[1], bridge, p.Id}, []uint64{p.Vector.Root, p.Vector.Cost, p.Vector.Bridge, p.Vector.Port}
		role := 3
		if p.Source == 0 {
			role = 0
		} else if p.Source < 3 {
			role = 2
		} else if at == port {
			role = 1
		} else if slices.Compare(offer, v) < 0 {
			role = 2
		} else if p.Vector.Bridge<<16 == bridge<<16 {
			role = 4
		}
		roles = append(roles, role)
	}
	return vec(best[0], best[1], best[2], best[3]), port, roles
}

// one answers any of them.
func one(r *rand.Rand, of ...uint64) uint64 { return of[r.Intn(len(of))] }

// anyPorts are right ones, of few numbers, so that many are the same.
func anyPorts(r *rand.Rand) []Info {
	var l []Info
	ids := r.Perm(20)
	for n := range r.Intn(17) {
		p := Info{Id: uint64(1 + ids[n]), Cost: one(r, 0, 1, 2, 3, top), Source: r.Intn(4)}
		if r.Intn(3) == 0 {
			p.Source = 3
		}
		if p.Source == 3 {
			p.Vector = vec(one(r, far, farther, own, greater), one(r, 0, 1, 2, 3, top-1, top), one(r, lesser, own, renamed, ahead, greater, far), uint64(r.Intn(4)))
		}
		l = append(l, p)
	}
	return l
}

// P8.1, P8.2
func TestAgainstTheModel(t *testing.T) {
	r := rand.New(rand.NewSource(81))
	for range 50000 {
		bridge, l := one(r, own, own, own, lesser, greater, far), anyPorts(r)
		root, port, roles := model(bridge, l)
		checkSelect(t, "any", bridge, l, root, port, roles...)
		if t.Failed() {
			t.FailNow()
		}
	}
}

// better tells whether a comes ahead of b.
func better(a, b api.Vector) bool {
	return slices.Compare([]uint64{a.Root, a.Cost, a.Bridge, a.Port}, []uint64{b.Root, b.Cost, b.Bridge, b.Port}) < 0
}

// P8.2: at most one root port, and just where the root vector isn't the own one; nothing is better than the root vector; who heard nothing is the root.
func TestWhatFollows(t *testing.T) {
	r := rand.New(rand.NewSource(82))
	for range 20000 {
		l := anyPorts(r)
		answer, e := Select(own, l)
		if e != api.OK || len(answer.Roles) != len(l) || len(answer.Offers) != len(l) {
			t.Fatalf("%#v %v", answer, e)
		}
		if answer.Port != slices.Index(answer.Roles, 1) || (answer.Port < 0) != (answer.Root == itself) {
			t.Fatalf("the root port is %d: %#v", answer.Port, answer)
		}
		roots, anyHeard := 0, false
		for at, p := range l {
			if answer.Roles[at] == 1 {
				roots++
			}
			way := vec(p.Vector.Root, min(p.Vector.Cost+p.Cost, top), p.Vector.Bridge, p.Vector.Port)
			if p.Source == 3 && way.Bridge%(1<<48) != 9 && better(way, answer.Root) {
				t.Fatalf("the way %#v is better than the root vector of %#v", way, answer)
			}
			anyHeard = anyHeard || p.Source == 3
		}
		if roots > 1 || better(itself, answer.Root) {
			t.Fatalf("%d root ports: %#v", roots, answer)
		}
		if !anyHeard && !isRoot(answer, l) {
			t.Fatalf("nothing was heard: %#v", answer)
		}
	}
}

// isRoot tells whether own is the root, and all ports that aren't disabled are designated.
func isRoot(answer Result, l []Info) bool {
	for at, p := range l {
		if (p.Source != 0) != (answer.Roles[at] == 2) {
			return false
		}
	}
	return answer.Root == itself && answer.Port == -1
}
