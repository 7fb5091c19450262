package vector

import (
	"math"
	"math/big"
	"math/rand"
	"slices"
	"strings"
	"testing"

	"treebridge/api"
)

const (
	noughts = "\x00\x00\x00\x00\x00\x00"
	ones    = "\xff\xff\xff\xff\xff\xff"
	mixed   = "\x01\x02\x03\x04\x05\x06"
	maximum = 1<<32 - 1 // the greatest cost
	all     = math.MaxUint64
)

// far are numbers beyond every range, those among them that a narrower number would take for ones in range.
var far = []int{
	-2, -15, -16, -4095, -4096, -65535, -65536, -65537, -1 << 32, -1<<32 + 1, -1 << 60, math.MinInt, math.MinInt + 1, math.MinInt + 8,
	65536, 65537, 65544, 1 << 17, 1 << 31, 1<<32 - 1, 1 << 32, 1<<32 + 1, 1<<32 + 8, 1 << 60, math.MaxInt - 1, math.MaxInt,
}

// wrongPriorities, wrongVlans and wrongNumbers are out of range.
var (
	wrongPriorities = append([]int{-1, 16, 17, 31, 32, 255, 256, 4095, 4096, 32768, 61440, 65535}, far...)
	wrongVlans      = append([]int{-1, 4096, 4097, 8191, 8192, 32768, 65535}, far...)
	wrongNumbers    = append([]int{-1, 0, 4096, 4097, 8191, 8192, 32769, 65535}, far...)
)

// checkBridge asks for an identifier, or, with an error, for none.
func checkBridge(t *testing.T, priority, vlan int, mac string, want uint64, wantError api.Errno) {
	t.Helper()
	if b, e := Bridge(priority, vlan, mac); b != want || e != wantError {
		t.Errorf("Bridge(%d, %d, %x): %x %v, want %x %v", priority, vlan, mac, b, e, want, wantError)
	}
}

// checkPort asks for an identifier, or, with an error, for none.
func checkPort(t *testing.T, priority, number int, want uint64, wantError api.Errno) {
	t.Helper()
	if p, e := Port(priority, number); p != want || e != wantError {
		t.Errorf("Port(%d, %d): %x %v, want %x %v", priority, number, p, e, want, wantError)
	}
}

// checkSplit asks for the parts.
func checkSplit(t *testing.T, bridge uint64, priority, vlan int, mac string) {
	t.Helper()
	if p, v, m := Split(bridge); p != priority || v != vlan || m != mac {
		t.Errorf("Split(%x): %d %d %x, want %d %d %x", bridge, p, v, m, priority, vlan, mac)
	}
}

// bridges are identifiers, told by hand, and their parts.
var bridges = []struct {
	priority, vlan int
	mac            string
	id             uint64
}{
	{0, 0, noughts, 0},
	{15, 4095, ones, all},
	{8, 1, noughts, 0x8001000000000000},
	{8, 100, mixed, 0x8064010203040506},
	{1, 0, noughts, 0x1000000000000000},
	{15, 0, noughts, 0xf000000000000000},
	{0, 1, noughts, 0x0001000000000000},
	{0, 256, noughts, 0x0100000000000000},
	{0, 4094, noughts, 0x0ffe000000000000},
	{0, 4095, noughts, 0x0fff000000000000},
	{15, 4095, noughts, 0xffff000000000000},
	{0, 0, ones, 0x0000ffffffffffff},
	{15, 0, ones, 0xf000ffffffffffff},
	{0, 4095, ones, 0x0fffffffffffffff},
	{0, 0, "\x00\x00\x00\x00\x00\x01", 1},
	{0, 0, "\x01\x00\x00\x00\x00\x00", 0x0000010000000000},
	{9, 0xabc, "\xfe\xdc\xba\x98\x76\x54", 0x9abcfedcba987654},
	{5, 7, "\x80\x80\x80\x80\x80\x80", 0x5007808080808080},
}

// P5.1
func TestBridgeAndItsParts(t *testing.T) {
	for _, b := range bridges {
		checkBridge(t, b.priority, b.vlan, b.mac, b.id, api.OK)
		checkSplit(t, b.id, b.priority, b.vlan, b.mac)
	}
}

// P5.1: each priority, and each VLAN that has room, those that no VLAN has among them.
func TestEveryPriorityAndVlan(t *testing.T) {
	for priority := range 16 {
		for vlan := range 4096 {
			want := (uint64(priority)*4096+uint64(vlan))*(1<<48) + 0x010203040506
			checkBridge(t, priority, vlan, mixed, want, api.OK)
			checkSplit(t, want, priority, vlan, mixed)
		}
	}
}

// P5.1: each byte of an address at each place, bytes 0 and 255 among them, with none and all of the others set.
func TestEveryByteOfAnAddress(t *testing.T) {
	for _, fill := range []string{noughts, ones} {
		for at := range 6 {
			for value := range 256 {
				mac := fill[:at] + string([]byte{byte(value)}) + fill[at+1:]
				var want uint64
				for place := range 6 {
					want = want*256 + uint64(mac[place])
				}
				checkBridge(t, 0, 0, mac, want, api.OK)
				checkSplit(t, want, 0, 0, mac)
				checkBridge(t, 15, 4095, mac, 0xffff000000000000+want, api.OK)
				checkSplit(t, 0xffff000000000000+want, 15, 4095, mac)
			}
		}
	}
}

// macsOfOtherLengths have not 6 bytes.
func macsOfOtherLengths() []string {
	return []string{
		"", "\x00", "\xff", ones[:5], noughts[:5], ones + "\xff", noughts + "\x00", mixed + mixed,
		"01:02:03:04:05:06", strings.Repeat("\x00", 262), strings.Repeat("a", 65542), "äöü" + "x", "äöüäöü",
	}
}

// P5.1: a length counts bytes, not letters.
func TestAddressesOfOtherLengths(t *testing.T) {
	for _, mac := range macsOfOtherLengths() {
		for _, b := range bridges {
			checkBridge(t, b.priority, b.vlan, mac, 0, api.ErrForm)
		}
	}
	checkBridge(t, 0, 0, "äöü", 0xc3a4c3b6c3bc, api.OK)
}

// P5.1: a priority, a VLAN, or both out of range, ahead of an address of another length.
func TestBridgeOutOfRange(t *testing.T) {
	macs := append([]string{noughts, ones, mixed}, macsOfOtherLengths()...)
	for _, mac := range macs {
		for _, priority := range wrongPriorities {
			for _, vlan := range []int{0, 1, 4094, 4095} {
				checkBridge(t, priority, vlan, mac, 0, api.ErrRange)
			}
			for _, vlan := range wrongVlans {
				checkBridge(t, priority, vlan, mac, 0, api.ErrRange)
			}
		}
		for _, vlan := range wrongVlans {
			for _, priority := range []int{0, 8, 15} {
				checkBridge(t, priority, vlan, mac, 0, api.ErrRange)
			}
		}
	}
}

// P5.1
func TestPort(t *testing.T) {
	for _, p := range []struct {
		priority, number int
		want             uint64
	}{
		{0, 1, 0x0001}, {0, 2, 0x0002}, {0, 255, 0x00ff}, {0, 256, 0x0100}, {0, 4095, 0x0fff}, {8, 1, 0x8001}, {8, 16, 0x8010},
		{1, 1, 0x1001}, {1, 4095, 0x1fff}, {15, 1, 0xf001}, {15, 4094, 0xfffe}, {15, 4095, 0xffff}, {10, 0xbcd, 0xabcd},
	} {
		checkPort(t, p.priority, p.number, p.want, api.OK)
	}
	for priority := range 16 {
		for number := 1; number < 4096; number++ {
			checkPort(t, priority, number, uint64(priority*4096+number), api.OK)
		}
	}
}

// P5.1: a priority, a number, or both out of range.
func TestPortOutOfRange(t *testing.T) {
	for _, priority := range wrongPriorities {
		for _, number := range append([]int{1, 2, 4094, 4095}, wrongNumbers...) {
			checkPort(t, priority, number, 0, api.ErrRange)
		}
	}
	for _, number := range wrongNumbers {
		for _, priority := range []int{0, 1, 8, 15} {
			checkPort(t, priority, number, 0, api.ErrRange)
		}
	}
}

// P5.1: each identifier has parts, of which it is made again.
func TestAnySplitIsMadeAgain(t *testing.T) {
	r := rand.New(rand.NewSource(1))
	for range 20000 {
		id := anyNumber(r)
		priority, vlan, mac := Split(id)
		checkBridge(t, priority, vlan, mac, id, api.OK)
	}
	for bit := range 64 {
		priority, vlan, mac := Split(1 << bit)
		checkBridge(t, priority, vlan, mac, 1<<bit, api.OK)
	}
}

// with answers v with the part at, in the order in which they decide, set to n.
func with(v api.Vector, at int, n uint64) api.Vector {
	*[]*uint64{&v.Root, &v.Cost, &v.Bridge, &v.Port}[at] = n
	return v
}

// checkOrder asks that a comes ahead of b, asked either way.
func checkOrder(t *testing.T, a, b api.Vector) {
	t.Helper()
	if c := Compare(a, b); c != -1 {
		t.Errorf("Compare(%x, %x): %d, want -1", a, b, c)
	}
	if c := Compare(b, a); c != 1 {
		t.Errorf("Compare(%x, %x): %d, want 1", b, a, c)
	}
	if !Supersedes(a, b) {
		t.Errorf("%x is better, and doesn't supersede %x", a, b)
	}
}

// pairs are a lesser number and a greater one, some of them so far apart that a difference would go round, or be below 0.
var pairs = [][2]uint64{
	{0, 1}, {1, 2}, {4, 5}, {255, 256}, {1<<32 - 1, 1 << 32}, {0, 1 << 32}, {1<<48 - 1, 1 << 48}, {1, 1 << 52}, {1<<63 - 1, 1 << 63},
	{0, 1 << 63}, {1, 1 << 63}, {1, 1<<63 + 1}, {1 << 63, 1<<63 + 1}, {1 << 63, all}, {0, all}, {1, all}, {all - 1, all}, {1<<63 - 1, all},
	{0xf000000000000000, 0xf000000000000001}, {1 << 53, 1<<53 + 1}, {1<<63 + 1, 1<<63 + 2},
}

// P5.2: each of the four numbers decides alone, and against all those behind it.
func TestEachNumberDecides(t *testing.T) {
	for _, base := range []api.Vector{{}, {Root: 5, Cost: 5, Bridge: 5, Port: 5}, {Root: 1 << 63, Cost: 7, Bridge: all, Port: 9}, {Root: all, Cost: all, Bridge: all, Port: all}} {
		for at := range 4 {
			for _, p := range pairs {
				less, more := with(base, at, p[0]), with(base, at, p[1])
				checkOrder(t, less, more)
				for behind := at + 1; behind < 4; behind++ {
					checkOrder(t, with(less, behind, all), with(more, behind, 0))
					less, more = with(less, behind, 1<<63), with(more, behind, 1)
					checkOrder(t, less, more)
				}
			}
		}
	}
}

// P5.2: vectors that are the same; each supersedes itself.
func TestSameVectors(t *testing.T) {
	for _, v := range []api.Vector{{}, {Root: 1}, {Cost: 1}, {Bridge: 1}, {Port: 1}, {Root: 5, Cost: 5, Bridge: 5, Port: 5}, {Root: 1 << 63, Cost: 1 << 40, Bridge: 1 << 63, Port: 1 << 63}, {Root: all, Cost: all, Bridge: all, Port: all}} {
		if c := Compare(v, v); c != 0 {
			t.Errorf("Compare(%x, itself): %d", v, c)
		}
		if !Supersedes(v, v) {
			t.Errorf("%x doesn't supersede itself", v)
		}
	}
}

// heard is what was heard, of a bridge of priority 8 in VLAN 2, by its port 3 of priority 8.
var heard = api.Vector{Root: 0x8002000000000001, Cost: 20000, Bridge: 0x8002aabbccddee01, Port: 0x8003}

// checkSupersedes asks of a vector that isn't better, so that who sent it alone decides.
func checkSupersedes(t *testing.T, name string, worse, than api.Vector, want bool) {
	t.Helper()
	if Compare(worse, than) < 0 {
		t.Fatalf("%s: %x is better than %x", name, worse, than)
	}
	if got := Supersedes(worse, than); got != want {
		t.Errorf("%s: Supersedes(%x, %x): %v, want %v", name, worse, than, got, want)
	}
}

// P5.2: worse ones, of a worse root or at a greater cost, of whoever sent the other one, or of another one.
func TestWorseSupersedesOfTheSameSender(t *testing.T) {
	for _, c := range []struct {
		name         string
		bridge, port uint64
		want         bool
	}{
		{"the same", heard.Bridge, heard.Port, true},
		{"another priority of the bridge", 0xf002aabbccddee01, heard.Port, true},
		{"a lesser priority of the bridge", 0x0002aabbccddee01, heard.Port, true},
		{"another VLAN", 0x8fffaabbccddee01, heard.Port, true},
		{"VLAN 0", 0x8000aabbccddee01, heard.Port, true},
		{"another priority of the port", heard.Bridge, 0xf003, true},
		{"a lesser priority of the port", heard.Bridge, 0x0003, true},
		{"a port beyond 16 bits", heard.Bridge, 0xffffffffffff0003, true},
		{"other priorities, and another VLAN", 0xf123aabbccddee01, 0xc003, true},
		{"another number", heard.Bridge, 0x8004, false},
		{"a lesser number", heard.Bridge, 0x8001, false},
		{"the number's highest bit", heard.Bridge, 0x8803, false},
		{"the same priority alone of the port", heard.Bridge, 0x8fff, false},
		{"another address", 0x8002aabbccddee02, heard.Port, false},
		{"a lesser address", 0x8002aabbccddee00, heard.Port, false},
		{"the address's highest bit", 0x80022abbccddee01, heard.Port, false},
		{"the same lower 32 bits of the address", 0x8002aabaccddee01, heard.Port, false},
		{"the same VLAN and priority alone", 0x8002000000000000, heard.Port, false},
		{"another sender", 0xf003aabbccddee02, 0x9004, false},
	} {
		worseRoot := api.Vector{Root: heard.Root + 1, Cost: 0, Bridge: c.bridge, Port: c.port}
		checkSupersedes(t, c.name, worseRoot, heard, c.want)
		worseCost := api.Vector{Root: heard.Root, Cost: heard.Cost + 1, Bridge: c.bridge, Port: c.port}
		checkSupersedes(t, c.name, worseCost, heard, c.want)
		if !Supersedes(heard, worseRoot) || !Supersedes(heard, worseCost) {
			t.Errorf("%s: the better one doesn't supersede", c.name)
		}
	}
}

// P5.2: worse by the bridge or the port alone.
func TestWorseBridgeOrPort(t *testing.T) {
	for _, c := range []struct {
		name         string
		bridge, port uint64
		want         bool
	}{
		{"the bridge's priority", 0x9002aabbccddee01, 0x8003, true},
		{"the VLAN", 0x8003aabbccddee01, 0x8003, true},
		{"the port's priority", 0x8002aabbccddee01, 0x9003, true},
		{"the bridge's priority, and the port's lesser", 0x9002aabbccddee01, 0x0003, true},
		{"the address", 0x8002aabbccddee02, 0x8003, false},
		{"the address, and a lesser port", 0x8002aabbccddee02, 0x8001, false},
		{"the number", 0x8002aabbccddee01, 0x8004, false},
		{"the bridge's priority, and another number", 0x9002aabbccddee01, 0x8004, false},
		{"the bridge's priority, and a lesser number", 0x9002aabbccddee01, 0x8002, false},
	} {
		checkSupersedes(t, c.name, with(with(heard, 2, c.bridge), 3, c.port), heard, c.want)
	}
}

// P5.2: root and cost say nothing of who sent it.
func TestRootAndCostAreNoSender(t *testing.T) {
	v := api.Vector{Root: 5, Cost: 5, Bridge: 5, Port: 5}
	checkSupersedes(t, "the same root and cost alone", api.Vector{Root: 5, Cost: 5, Bridge: 6, Port: 6}, v, false)
	checkSupersedes(t, "the same root's address alone", api.Vector{Root: 5 | 7<<48, Cost: 5, Bridge: 6, Port: 5}, v, false)
	checkSupersedes(t, "root and cost of another's", api.Vector{Root: all, Cost: all, Bridge: 5, Port: 5}, v, true)
}

// P5.2
func TestRaise(t *testing.T) {
	for _, c := range []struct{ cost, more, want uint64 }{
		{0, 0, 0}, {0, 1, 1}, {5, 0, 5}, {5, 7, 12}, {20000, 200000, 220000}, {1<<31 - 1, 1, 1 << 31}, {1 << 31, 1<<31 - 1, maximum},
		{maximum - 1, 0, maximum - 1}, {0, maximum - 1, maximum - 1}, {1 << 31, 1<<31 - 2, maximum - 1},
		{maximum, 0, maximum}, {0, maximum, maximum}, {maximum - 1, 1, maximum}, {1, maximum - 1, maximum},
		{maximum, 1, maximum}, {1, maximum, maximum}, {1 << 31, 1 << 31, maximum}, {maximum - 1, 2, maximum}, {1 << 32, 0, maximum}, {0, 1 << 32, maximum},
		{maximum, maximum, maximum}, {1<<32 + 1, 0, maximum}, {1<<32 + 5, 7, maximum}, {1 << 40, 0, maximum}, {1 << 40, 1, maximum},
		{1 << 63, 0, maximum}, {1 << 63, 1, maximum}, {all, 0, maximum}, {0, all, maximum},
		{1, all, maximum}, {all, 1, maximum}, {5, all, maximum}, {6, all - 5, maximum}, {7, all - 5, maximum}, {all, all, maximum},
		{all - 5, 10, maximum}, {all - 5, 6, maximum}, {1 << 63, 1 << 63, maximum}, {1<<63 + 9, 1 << 63, maximum}, {maximum, all - maximum + 1, maximum}, {1 << 32, all - maximum, maximum},
	} {
		for _, v := range []api.Vector{{}, {Root: 1, Bridge: 2, Port: 3}, {Root: 1 << 63, Bridge: 1<<63 + 1, Port: 0xffff}, {Root: all, Bridge: all, Port: all}} {
			got, want := Raise(with(v, 1, c.cost), c.more), with(v, 1, c.want)
			if got != want {
				t.Errorf("%x raised by %x: %x, want %x", with(v, 1, c.cost), c.more, got, want)
			}
		}
	}
}

// P5.2: any costs, held against sums of numbers without a bound.
func TestAnyRaise(t *testing.T) {
	r := rand.New(rand.NewSource(2))
	greatest := big.NewInt(maximum)
	for range 20000 {
		v, more := anyVector(r), anyCost(r)
		v.Cost = anyCost(r)
		want := new(big.Int).SetUint64(v.Cost)
		want.Add(want, new(big.Int).SetUint64(more))
		if want.Cmp(greatest) > 0 {
			want = greatest
		}
		if got := Raise(v, more); got != with(v, 1, want.Uint64()) {
			t.Fatalf("%x raised by %x: %x", v, more, got)
		}
	}
}

// checkBest asks for a place, and that what was handed in, its spare room too, is as it was.
func checkBest(t *testing.T, name string, l []api.Vector, want int) {
	t.Helper()
	room := append(slices.Clone(l), api.Vector{Root: 77}, api.Vector{Port: 78})
	before := slices.Clone(room)
	if got := Best(room[:len(l)]); got != want {
		t.Errorf("%s: Best(%x): %d, want %d", name, l, got, want)
	}
	if !slices.Equal(room, before) {
		t.Errorf("%s: changed to %x, was %x", name, room, before)
	}
}

// P5.2
func TestBest(t *testing.T) {
	a, b, c := api.Vector{Root: 1, Cost: 9}, api.Vector{Root: 2, Cost: 5}, api.Vector{Root: 2, Cost: 6}
	high, zero := api.Vector{Root: 1 << 63}, api.Vector{}
	for _, x := range []struct {
		name string
		l    []api.Vector
		want int
	}{
		{"none", []api.Vector{}, -1},
		{"one", []api.Vector{b}, 0},
		{"one, zero", []api.Vector{zero}, 0},
		{"one, all ones", []api.Vector{{Root: all, Cost: all, Bridge: all, Port: all}}, 0},
		{"the first", []api.Vector{a, b, c}, 0},
		{"in the midst", []api.Vector{b, a, c}, 1},
		{"the last", []api.Vector{c, b, a}, 2},
		{"the last, rising between", []api.Vector{b, c, a}, 2},
		{"twice, first and last", []api.Vector{a, b, a}, 0},
		{"twice, behind another", []api.Vector{b, a, a}, 1},
		{"twice, others between", []api.Vector{c, a, b, a, c}, 1},
		{"all the same", []api.Vector{c, c, c, c}, 0},
		{"all zero", []api.Vector{zero, zero}, 0},
		{"zero behind others", []api.Vector{a, zero, b}, 1},
		{"of 2^63", []api.Vector{high, a}, 1},
		{"by the port", []api.Vector{with(a, 3, 3), with(a, 3, 2), with(a, 3, 2)}, 1},
		{"by the bridge", []api.Vector{with(a, 2, 3), with(a, 2, 2), with(a, 2, 1)}, 2},
		// One that supersedes as it is of the same sender isn't better.
		{"worse of the same sender", []api.Vector{heard, with(heard, 1, heard.Cost+1)}, 0},
	} {
		checkBest(t, x.name, x.l, x.want)
	}
	if got := Best(nil); got != -1 {
		t.Errorf("Best(nil): %d", got)
	}
}

// P5.2: the place, as the promise tells it.
func TestAnyBest(t *testing.T) {
	r := rand.New(rand.NewSource(3))
	for range 5000 {
		l := make([]api.Vector, r.Intn(20))
		for at := range l {
			l[at] = smallVector(r)
		}
		want := slices.IndexFunc(l, func(v api.Vector) bool {
			return !slices.ContainsFunc(l, func(other api.Vector) bool { return Compare(other, v) == -1 })
		})
		checkBest(t, "any", l, want)
	}
	long := make([]api.Vector, 100000)
	for at := range long {
		long[at] = api.Vector{Root: 1, Bridge: uint64(len(long) - at)}
	}
	checkBest(t, "many, the last", long, len(long)-1)
	slices.Reverse(long)
	checkBest(t, "many, the first", long, 0)
}

// anyNumber is near an edge now and then.
func anyNumber(r *rand.Rand) uint64 {
	edges := []uint64{0, 1, maximum, 1 << 32, 1<<48 - 1, 1 << 48, 1<<63 - 1, 1 << 63, all}
	if r.Intn(3) == 0 {
		return edges[r.Intn(len(edges))] + uint64(r.Intn(3)) - 1
	}
	return r.Uint64() >> r.Intn(64)
}

func anyCost(r *rand.Rand) uint64 {
	if r.Intn(2) == 0 {
		return uint64(r.Uint32())
	}
	return anyNumber(r)
}

func anyVector(r *rand.Rand) api.Vector {
	return api.Vector{Root: anyNumber(r), Cost: anyNumber(r), Bridge: anyNumber(r), Port: anyNumber(r)}
}

// smallVector is often the same as another one, or the same but for its last numbers.
func smallVector(r *rand.Rand) api.Vector {
	part := func() uint64 { return []uint64{0, 1, 1 << 63, all}[r.Intn(4)] }
	return api.Vector{Root: part(), Cost: part(), Bridge: part(), Port: part()}
}

// eitherVector is one of both kinds.
func eitherVector(r *rand.Rand) api.Vector {
	if r.Intn(2) == 0 {
		return anyVector(r)
	}
	return smallVector(r)
}

// wantCompared is what Words ask, told number by number.
func wantCompared(a, b api.Vector) int {
	switch {
	case a == b:
		return 0
	case a.Root < b.Root,
		a.Root == b.Root && a.Cost < b.Cost,
		a.Root == b.Root && a.Cost == b.Cost && a.Bridge < b.Bridge,
		a.Root == b.Root && a.Cost == b.Cost && a.Bridge == b.Bridge && a.Port < b.Port:
		return -1
	}
	return 1
}

// P5.2, P5.3: comparing is an order of any three: asked the other way it is the other way round, it is 0 of the same alone, and it goes on.
func TestComparingIsAnOrder(t *testing.T) {
	r := rand.New(rand.NewSource(4))
	for range 50000 {
		l := []api.Vector{eitherVector(r), eitherVector(r), eitherVector(r)}
		for _, a := range l {
			for _, b := range l {
				if c := Compare(a, b); c != wantCompared(a, b) || c != -Compare(b, a) || (c == 0) != (a == b) {
					t.Fatalf("Compare(%x, %x): %d, the other way %d", a, b, c, Compare(b, a))
				}
			}
		}
		slices.SortFunc(l, Compare)
		for at := range 2 {
			for behind := at + 1; behind < 3; behind++ {
				if Compare(l[at], l[behind]) > 0 {
					t.Fatalf("%x: %d is behind %d", l, at, behind)
				}
			}
		}
	}
}

// P5.3: raised by the same cost, vectors stay in the order, as long as no cost comes to the greatest.
func TestRaisedStaysInOrder(t *testing.T) {
	r := rand.New(rand.NewSource(5))
	kept := 0
	for range 50000 {
		a := eitherVector(r)
		b := eitherVector(r)
		if r.Intn(2) == 0 {
			b.Root = a.Root
		}
		a.Cost, b.Cost = uint64(r.Uint32()>>r.Intn(32)), uint64(r.Uint32()>>r.Intn(32))
		more := uint64(r.Uint32() >> r.Intn(32))
		if max(a.Cost, b.Cost)+more >= maximum {
			continue
		}
		kept++
		if before, behind := Compare(a, b), Compare(Raise(a, more), Raise(b, more)); before != behind {
			t.Fatalf("%x, %x raised by %x: %d, was %d", a, b, more, behind, before)
		}
	}
	if kept < 10000 {
		t.Errorf("only %d pairs", kept)
	}
	// One below the greatest is the last cost at which it holds; at the greatest, costs are the same, and the bridge decides.
	a, b := api.Vector{Root: 1, Cost: maximum - 3, Bridge: 9}, api.Vector{Root: 1, Cost: maximum - 2, Bridge: 8}
	if Compare(a, b) != -1 || Compare(Raise(a, 1), Raise(b, 1)) != -1 || Compare(Raise(a, 3), Raise(b, 3)) != 1 {
		t.Error("near the greatest cost")
	}
}

// P5.2: who supersedes, told by numbers.
func TestAnySupersedes(t *testing.T) {
	r := rand.New(rand.NewSource(6))
	same, other := 0, 0
	for range 50000 {
		a, b := eitherVector(r), eitherVector(r)
		if r.Intn(2) == 0 {
			b.Bridge = a.Bridge%(1<<48) + uint64(r.Intn(1<<16))<<48
		}
		if r.Intn(2) == 0 {
			b.Port = a.Port%4096 + anyNumber(r)/4096*4096
		}
		want := wantCompared(a, b) == -1 || a.Bridge%(1<<48) == b.Bridge%(1<<48) && a.Port%4096 == b.Port%4096
		if got := Supersedes(a, b); got != want {
			t.Fatalf("Supersedes(%x, %x): %v", a, b, got)
		}
		if wantCompared(a, b) != -1 && want {
			same++
		} else if !want {
			other++
		}
	}
	if same < 100 || other < 100 {
		t.Errorf("only %d superseded by who sent them, %d not at all", same, other)
	}
}
