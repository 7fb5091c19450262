package bridge

import (
	"math"
	"math/rand"
	"reflect"
	"slices"
	"strconv"
	"strings"
	"testing"

	"treebridge/api"
	"treebridge/bpdu"
	"treebridge/fdb"
	"treebridge/frame"
	"treebridge/info"
	"treebridge/llc"
	"treebridge/mismatch"
	"treebridge/rstp"
	"treebridge/sstp"
	"treebridge/state"
	"treebridge/vector"
	"treebridge/vlanport"
)

// The numbers are told by hand, not taken from the package.

const (
	own       = "\x02aaaaa"
	other     = "\x02zzzzz" // of another bridge
	everybody = "\xff\xff\xff\xff\xff\xff"
	aGroup    = "\x01\x00\x5e\x00\x00\x01"
	ieeeGroup = "\x01\x80\xc2\x00\x00\x00"
	sstpGroup = "\x01\x00\x0c\xcc\xcc\xcd"
)

func trunk(native int, allowed ...int) Port {
	return Port{Set: vlanport.Port{Trunk: true, Native: native, Allowed: allowed}, Cost: 4}
}

func access(native int) Port { return Port{Set: vlanport.Port{Native: native}, Cost: 4} }

// usual is of the VLANs 1 to 3, and has ports of all sorts.
func usual() Config {
	return Config{
		Mac: own, Priority: 8, Times: state.Times{Max: 20, Hello: 2, Delay: 15}, Room: 64, Vlans: []int{1, 2, 3},
		Ports: []Port{
			trunk(1, 1, 2, 3), // 0
			trunk(2, 1, 2, 3), // 1
			access(2),         // 2
			access(1),         // 3
			access(2),         // 4
			trunk(1, 1, 7),    // 5: the bridge hasn't 7
			access(7),         // 6: so it is of none
			trunk(9, 2, 3),    // 7: it isn't of VLAN 1, nor of its Native
		},
	}
}

// members has the usual ports of each VLAN.
var members = map[int][]int{1: {0, 1, 3, 5}, 2: {0, 1, 2, 4, 7}, 3: {0, 1, 7}}

// small is of one VLAN, and has so many access ports of it.
func small(vlan, n int) Config {
	c := usual()
	c.Vlans, c.Ports = []int{vlan}, nil
	for range n {
		c.Ports = append(c.Ports, access(vlan))
	}
	return c
}

func off(t *testing.T, c Config) *Bridge {
	t.Helper()
	b, e := New(c)
	if e != api.OK || b == nil {
		t.Fatal(b, e)
	}
	return b
}

// up is a bridge whose ports are on, and came to forward, as nothing was heard: three ticks old.
func up(t *testing.T, c Config) *Bridge {
	t.Helper()
	b := off(t, c)
	for at := range c.Ports {
		must(t, b.Power(at, true))
	}
	ticks(b, 3)
	return b
}

func must(t *testing.T, e api.Errno) {
	t.Helper()
	if e != api.OK {
		t.Fatal(e)
	}
}

func ticks(b *Bridge, n int) {
	for range n {
		b.Tick()
	}
}

// host is a frame as hosts send them.
func host(src, dst string) api.Frame {
	return api.Frame{Dst: dst, Src: src, Type: 0x0800, Payload: "hi"}
}

// station is the address of a host.
func station(n int) string { return "\x02host" + string([]byte{byte(n)}) }

func tagged(f api.Frame, priority, vlan int) api.Frame {
	f.Tagged, f.Priority, f.Vlan = true, priority, vlan
	return f
}

func printed(t *testing.T, f api.Frame) string {
	t.Helper()
	s, e := frame.Print(f)
	must(t, e)
	return s
}

// sent is f, at a port.
func sent(t *testing.T, at int, f api.Frame) Sent {
	t.Helper()
	return Sent{at, printed(t, f)}
}

// in brings a frame to the port at that place.
func in(t *testing.T, b *Bridge, at int, f api.Frame) []Sent {
	t.Helper()
	out, e := b.In(at, printed(t, f))
	must(t, e)
	return out
}

// checkIn brings a frame, and asks what goes out.
func checkIn(t *testing.T, name string, b *Bridge, at int, f api.Frame, want ...Sent) {
	t.Helper()
	if out := in(t, b, at, f); !slices.Equal(out, want) {
		t.Errorf("%s: goes out: %#v, want %#v", name, out, want)
	}
}

func checkMay(t *testing.T, name string, b *Bridge, at, vlan int, learn, forward bool) {
	t.Helper()
	if l, f := b.May(at, vlan); l != learn || f != forward {
		t.Errorf("%s: may at %d, VLAN %d: %t, %t", name, at, vlan, l, f)
	}
}

func checkCount(t *testing.T, name string, b *Bridge, good, bad int) {
	t.Helper()
	if g, w := b.Count(); g != good || w != bad {
		t.Errorf("%s: %d good, %d bad, want %d, %d", name, g, w, good, bad)
	}
}

func checkTable(t *testing.T, name string, b *Bridge, want ...fdb.Entry) {
	t.Helper()
	if l := b.Table(); !slices.Equal(l, want) {
		t.Errorf("%s: table %#v, want %#v", name, l, want)
	}
}

func entry(vlan, n, port, heard int) fdb.Entry {
	return fdb.Entry{Vlan: vlan, Mac: station(n), Port: port, Heard: heard}
}

// whole is all that a bridge keeps.
func whole(b *Bridge) any {
	var all []any
	for _, vlan := range b.vlans {
		all = append(all, vlan, b.instances[vlan].Ports(), b.instances[vlan].Rounds())
	}
	for _, p := range b.ports {
		all = append(all, p.id, p.set, p.guard.List(b.now), p.guard.Heard())
	}
	good, bad := b.Count()
	return append(all, b.mac, b.now, good, bad, b.Table(), b.table.Learned())
}

// checkSame asks that nothing of all that is another one.
func checkSame(t *testing.T, name string, b *Bridge, was any) {
	t.Helper()
	if is := whole(b); !reflect.DeepEqual(is, was) {
		t.Errorf("%s: is %v, was %v", name, is, was)
	}
}

func vec(root, cost, bridge, port uint64) api.Vector {
	return api.Vector{Root: root, Cost: cost, Bridge: bridge, Port: port}
}

// The kinds of BPDUs that are told, and the flags.
const (
	config     = 1
	rapid      = 3
	designated = 0x0c
	learns     = 0x1c
	changed    = 0x0d
)

// told is a BPDU of the usual times.
func told(kind, flags int, v api.Vector) bpdu.Bpdu {
	return bpdu.Bpdu{Kind: kind, Flags: flags, Vector: v, Max: 20 * 256, Hello: 2 * 256, Delay: 15 * 256}
}

func notice() bpdu.Bpdu { return bpdu.Bpdu{Kind: 2} }

// better is of a bridge that is to be the root; worse of one to which any other one is.
func better() bpdu.Bpdu { return told(rapid, designated, vec(1, 0, 1, 1)) }

func worse(kind, flags int) bpdu.Bpdu {
	return told(kind, flags, vec(math.MaxUint64, 9, math.MaxUint64, 1))
}

// ieee is a frame with a BPDU in it; sstpOf one that tells a VLAN, too.
func ieee(t *testing.T, m bpdu.Bpdu) api.Frame {
	t.Helper()
	inner, e := bpdu.Print(m)
	must(t, e)
	f, e := llc.Ieee(other, inner)
	must(t, e)
	return f
}

func sstpOf(t *testing.T, m bpdu.Bpdu, vlan int) api.Frame {
	t.Helper()
	inner, e := sstp.Print(m, vlan)
	must(t, e)
	f, e := llc.Sstp(other, inner)
	must(t, e)
	return f
}

// place is a VLAN's port.
type place struct{ vlan, at int }

// places answers all of which ask tells so, by rising VLANs, then places.
func places(b *Bridge, ask func(vlan, at int, p state.Port) bool) []place {
	var out []place
	for _, vlan := range b.vlans {
		for at, p := range b.instances[vlan].Ports() {
			if ask(vlan, at, p) {
				out = append(out, place{vlan, at})
			}
		}
	}
	return out
}

func heard(b *Bridge) []place {
	return places(b, func(vlan, at int, p state.Port) bool { return p.Source == 3 })
}

// guarded answers where a guard blocks.
func guarded(b *Bridge) []place {
	return places(b, func(vlan, at int, p state.Port) bool { return b.ports[at].guard.Blocked(vlan, b.now) })
}

func checkPlaces(t *testing.T, name string, got []place, want ...place) {
	t.Helper()
	if !slices.Equal(got, want) {
		t.Errorf("%s: %v, want %v", name, got, want)
	}
}

// P16.1: what no bridge is made of; that is told, and none is made.
func TestNewRefuses(t *testing.T) {
	vlans := func(l ...int) func(c *Config) { return func(c *Config) { c.Vlans = l } }
	times := func(max, hello, delay, age int) func(c *Config) {
		return func(c *Config) { c.Times = state.Times{Max: max, Hello: hello, Delay: delay, Age: age} }
	}
	set := func(p vlanport.Port) func(c *Config) { return func(c *Config) { c.Ports[0].Set = p } }
	many := func(n int) func(c *Config) { return func(c *Config) { c.Ports = small(1, n).Ports } }
	for at, do := range []func(c *Config){
		func(c *Config) { c.Mac = "" }, func(c *Config) { c.Mac = own[:5] }, func(c *Config) { c.Mac = own + "a" },
		func(c *Config) { c.Mac = "\x03aaaaa" }, func(c *Config) { c.Mac = "\x01aaaaa" }, func(c *Config) { c.Mac = everybody }, func(c *Config) { c.Mac = ieeeGroup },
		func(c *Config) { c.Priority = -1 }, func(c *Config) { c.Priority = 16 }, func(c *Config) { c.Priority = math.MinInt }, func(c *Config) { c.Priority = 1 << 32 },
		times(0, 0, 0, 0), times(5, 2, 15, 0), times(41, 2, 15, 0), times(20, 0, 15, 0), times(20, 3, 15, 0), times(20, 10, 15, 0), times(20, 2, 3, 0), times(20, 2, 31, 0), times(20, 2, 15, 1), times(20, 2, 15, -1),
		func(c *Config) { c.Room = 0 }, func(c *Config) { c.Room = -1 }, func(c *Config) { c.Room = 65 }, func(c *Config) { c.Room = math.MaxInt },
		vlans(), vlans(1, 2, 3, 4, 5, 6, 7, 8, 9, 10, 11, 12, 13, 14, 15, 16, 17), func(c *Config) { c.Vlans = make([]int, 1<<20) },
		vlans(2, 1), vlans(1, 3, 2), vlans(1, 1), vlans(1, 2, 2), vlans(4094, 4094), vlans(0), vlans(0, 1), vlans(-1, 1), vlans(4095), vlans(1, 4095), vlans(1, 2, math.MaxInt), vlans(math.MaxInt, math.MinInt), vlans(math.MinInt),
		func(c *Config) { c.Ports = nil }, func(c *Config) { c.Ports = []Port{} }, many(17), many(18), many(4096), func(c *Config) { c.Ports = make([]Port, 1<<20) },
		set(vlanport.Port{}), set(vlanport.Port{Native: 4095}), set(vlanport.Port{Native: -1}), set(vlanport.Port{Native: 1, Allowed: []int{1}}),
		set(vlanport.Port{Trunk: true, Allowed: []int{1}}), set(vlanport.Port{Trunk: true, Native: 1, Allowed: []int{2, 1}}), set(vlanport.Port{Trunk: true, Native: 1, Allowed: []int{1, 1}}),
		set(vlanport.Port{Trunk: true, Native: 1, Allowed: []int{0, 1}}), set(vlanport.Port{Trunk: true, Native: 1, Allowed: []int{1, 4095}}), set(vlanport.Port{Trunk: true, Native: 1, Allowed: []int{1, 2, 3, 4, 5, 6, 7, 8, 9, 10, 11, 12, 13, 14, 15, 16, 17}}),
		func(c *Config) { c.Ports[7].Set.Native = 0 },
		func(c *Config) { c.Ports[0].Cost = 1 << 32 }, func(c *Config) { c.Ports[0].Cost = 1<<32 + 4 }, func(c *Config) { c.Ports[7].Cost = math.MaxUint64 },
	} {
		c := usual()
		do(&c)
		if b, e := New(c); b != nil || e != api.ErrForm {
			t.Errorf("%d: %v, %d", at, b, e)
		}
	}
	if b, e := New(Config{}); b != nil || e != api.ErrForm {
		t.Error("of nothing", b, e)
	}
}

// P16.1: what is let be, at the edges; a new bridge's ports are off, it knows nothing, and counted nothing.
func TestNewLetsBe(t *testing.T) {
	vlans := func(l ...int) func(c *Config) { return func(c *Config) { c.Vlans = l } }
	times := func(max, hello, delay int) func(c *Config) {
		return func(c *Config) { c.Times = state.Times{Max: max, Hello: hello, Delay: delay} }
	}
	for at, do := range []func(c *Config){
		func(c *Config) {},
		func(c *Config) { c.Mac = "\x00\x00\x00\x00\x00\x00" }, func(c *Config) { c.Mac = "\xfe\xff\xff\xff\xff\xff" },
		func(c *Config) { c.Priority = 0 }, func(c *Config) { c.Priority = 15 },
		times(6, 1, 4), times(40, 2, 30),
		func(c *Config) { c.Room = 1 }, func(c *Config) { c.Room = 64 },
		vlans(1), vlans(4094), vlans(1, 4094), vlans(1, 2, 3, 4, 5, 6, 7, 8, 9, 10, 11, 12, 13, 14, 15, 4094),
		func(c *Config) { c.Ports = small(1, 1).Ports }, func(c *Config) { c.Ports = small(1, 16).Ports }, func(c *Config) { c.Ports = small(4094, 2).Ports },
		func(c *Config) { c.Ports[0] = trunk(1) }, func(c *Config) { c.Ports[0] = trunk(1, 1, 2, 3, 4, 5, 6, 7, 8, 9, 10, 11, 12, 13, 14, 15, 4094) },
		func(c *Config) { c.Ports[0].Cost = 0 }, func(c *Config) { c.Ports[0].Cost = 1<<32 - 1 }, func(c *Config) { c.Ports[0].Edge = true },
	} {
		c := usual()
		do(&c)
		b, e := New(c)
		if e != api.OK || b == nil {
			t.Errorf("%d: %v, %d", at, b, e)
			continue
		}
		checkNew(t, strconv.Itoa(at), b, c)
	}
}

func checkNew(t *testing.T, name string, b *Bridge, c Config) {
	t.Helper()
	for at := range c.Ports {
		for _, vlan := range c.Vlans {
			checkMay(t, name, b, at, vlan, false, false)
		}
	}
	checkTable(t, name, b)
	checkCount(t, name, b, 0, 0)
	if out := b.Send(); len(out) != 0 {
		t.Error(name, "sends", out)
	}
	// A port that is off passes nothing on, nor learns, however long.
	ticks(b, 50)
	f := host(station(1), everybody)
	if c.Ports[0].Set.Trunk {
		f = tagged(f, 0, c.Vlans[0])
	}
	if out, e := b.In(0, printed(t, f)); len(out) != 0 || e != api.OK {
		t.Error(name, "passes on", out, e)
	}
	checkTable(t, name, b)
	for _, vlan := range c.Vlans {
		l := b.instances[vlan].Ports()
		if len(l) != len(c.Ports) {
			t.Error(name, len(l), "ports in VLAN", vlan)
		}
		for at, p := range l {
			if p.On || p.Id != uint64(0x8001+at) || p.Cost != c.Ports[at].Cost || p.Admin != c.Ports[at].Edge {
				t.Errorf("%s: VLAN %d, at %d: %+v", name, vlan, at, p)
			}
		}
	}
}

// P16.1: an instance's bridge is of the Priority, the VLAN and the address, and of the times.
func TestIdentifiers(t *testing.T) {
	c := usual()
	c.Priority, c.Mac, c.Vlans = 15, "\x02\x03\x04\x05\x06\x07", []int{1, 0xabc}
	c.Times = state.Times{Max: 6, Hello: 1, Delay: 4}
	b := up(t, c)
	for vlan, id := range map[int]uint64{1: 0xf001_0203_0405_0607, 0xabc: 0xfabc_0203_0405_0607} {
		for at, p := range b.instances[vlan].Ports() {
			if p.Offer != vec(id, 0, id, uint64(0x8001+at)) || p.Given != c.Times {
				t.Errorf("VLAN %d, at %d: %+v", vlan, at, p)
			}
		}
	}
	// The guard's Hello is of the times, too: blocked for three ticks.
	in(t, b, 3, sstpOf(t, worse(config, 0), 1))
	ticks(b, 2)
	checkMay(t, "just blocked", b, 3, 1, false, false)
	b.Tick()
	checkMay(t, "free", b, 3, 1, true, true)
}

// Rule 3: what was handed in isn't changed and not kept; another bridge of it is its own.
func TestNewKeepsNothing(t *testing.T) {
	c := usual()
	b := up(t, c)
	if !reflect.DeepEqual(c, usual()) {
		t.Errorf("changed: %+v", c)
	}
	d := up(t, c)
	was := whole(b)
	c.Vlans[0], c.Vlans[1], c.Vlans[2] = 4, 5, 6
	for at := range c.Ports {
		for i := range c.Ports[at].Set.Allowed {
			c.Ports[at].Set.Allowed[i] = 4000 + i
		}
		c.Ports[at] = access(4094)
	}
	checkSame(t, "written to", b, was)
	for vlan := range 8 {
		for at := range 8 {
			is := slices.Contains(members[vlan], at)
			checkMay(t, "written to", b, at, vlan, is, is)
		}
	}
	in(t, d, 0, host(station(1), everybody))
	in(t, d, 0, ieee(t, better()))
	in(t, d, 2, sstpOf(t, better(), 2))
	must(t, d.Power(3, false))
	d.Tick()
	checkSame(t, "another one", b, was)
	checkIn(t, "written to", b, 0, tagged(host(station(1), everybody), 0, 3), sent(t, 1, tagged(host(station(1), everybody), 0, 3)), sent(t, 7, tagged(host(station(1), everybody), 0, 3)))
}

// P16.1, P16.2: places that there are none of: that is told ahead of anything else, and changes nothing; the last one there is.
func TestPlaces(t *testing.T) {
	b := up(t, usual())
	in(t, b, 0, host(station(1), everybody))
	was := whole(b)
	f := printed(t, host(station(2), everybody))
	for _, at := range []int{-1, 8, 9, 16, math.MinInt, math.MaxInt} {
		for _, on := range []bool{true, false} {
			if e := b.Power(at, on); e != api.ErrRange {
				t.Error("power", at, e)
			}
		}
		for _, s := range []string{f, "", "x", strings.Repeat("x", 2000), printed(t, ieee(t, better()))} {
			if out, e := b.In(at, s); e != api.ErrRange || len(out) != 0 {
				t.Error("in", at, out, e)
			}
		}
		for vlan := range 4 {
			checkMay(t, "no place", b, at, vlan, false, false)
		}
	}
	checkSame(t, "refused", b, was)
	for _, at := range []int{0, 7} {
		checkMay(t, "first and last", b, at, 3, true, true)
		must(t, b.Power(at, false))
		checkMay(t, "first and last, off", b, at, 3, false, false)
		if out, e := b.In(at, "x"); e != api.OK || len(out) != 0 {
			t.Error("bytes alone are wrong", at, out, e)
		}
	}
	checkCount(t, "behind it", b, 1, 2)
}

// P16.2: May: a port that is on forwards what it is of: of one VLAN, of several, of none.
func TestMay(t *testing.T) {
	b := up(t, usual())
	for _, vlan := range []int{math.MinInt, -1, 0, 1, 2, 3, 4, 7, 9, 4094, 4095, math.MaxInt} {
		for at := range 8 {
			is := slices.Contains(members[vlan], at)
			checkMay(t, "up", b, at, vlan, is, is)
		}
	}
}

// P16.1: Power is done in the instances of the VLANs that a port is of, and in no other one.
func TestPower(t *testing.T) {
	on := func(b *Bridge) []place {
		return places(b, func(vlan, at int, p state.Port) bool { return p.On })
	}
	for at, want := range [][]place{{{1, 0}, {2, 0}, {3, 0}}, {{1, 1}, {2, 1}, {3, 1}}, {{2, 2}}, {{1, 3}}, {{2, 4}}, {{1, 5}}, nil, {{2, 7}, {3, 7}}} {
		b := off(t, usual())
		name := "port " + strconv.Itoa(at)
		must(t, b.Power(at, true))
		checkPlaces(t, name+" on", on(b), want...)
		for _, x := range want {
			checkMay(t, name+" on, at once", b, at, x.vlan, false, false)
		}
		ticks(b, 2)
		was := whole(b)
		must(t, b.Power(at, true))
		checkSame(t, name+" on again", b, was)
		b.Tick()
		for _, x := range want {
			checkMay(t, name+" on, three ticks later", b, at, x.vlan, true, true)
		}
		must(t, b.Power(at, false))
		checkPlaces(t, name+" off", on(b))
		for vlan := range 8 {
			checkMay(t, name+" off", b, at, vlan, false, false)
		}
		was = whole(b)
		must(t, b.Power(at, false))
		checkSame(t, name+" off again", b, was)
	}
	c := usual()
	c.Ports[2].Edge = true
	b := off(t, c)
	must(t, b.Power(2, true))
	checkMay(t, "an edge, at once", b, 2, 2, true, true)
}

// P16.2, P0.4: bytes that can't be read are counted, and nothing comes of it.
func TestBadFrames(t *testing.T) {
	good := printed(t, tagged(host(station(1), everybody), 0, 2))
	long := host(station(1), everybody)
	long.Payload = strings.Repeat("x", 1500)
	fromGroup := "\x03" + station(1)[1:]
	for at, s := range []string{
		"", "x", good[:13], good[:17], printed(t, host(station(1), everybody))[:13], printed(t, long) + "x",
		strings.Replace(good, station(1), fromGroup, 1), good[:14] + "\x1f\xff" + good[16:], good[:14] + "\x10\x02" + good[16:], good[:12] + "\x81\x00\x00\x01" + good[12:],
		printed(t, ieee(t, better())) + "x", printed(t, ieee(t, better()))[:40],
	} {
		b := up(t, usual())
		was := whole(b)
		out, e := b.In(0, s)
		if len(out) != 0 || e != api.OK {
			t.Errorf("%d: %#v, %d", at, out, e)
		}
		checkCount(t, strconv.Itoa(at), b, 0, 1)
		b.bad = 0
		checkSame(t, strconv.Itoa(at), b, was)
	}
	// Of no VLAN, there: that is layer 6's error.
	b := up(t, usual())
	for n, x := range []struct {
		at int
		f  api.Frame
	}{
		{0, tagged(host(station(1), everybody), 0, 4)}, {0, tagged(host(station(1), everybody), 0, 4094)}, {2, tagged(host(station(1), everybody), 0, 2)}, {2, tagged(host(station(1), everybody), 7, 1)},
		{5, tagged(host(station(1), everybody), 0, 2)}, {7, host(station(1), everybody)}, {7, tagged(host(station(1), everybody), 0, 0)}, {7, tagged(host(station(1), everybody), 0, 9)}, {6, tagged(host(station(1), everybody), 0, 7)},
		{2, tagged(sstpOf(t, better(), 2), 0, 2)}, {7, sstpOf(t, better(), 9)}, {5, tagged(sstpOf(t, better(), 2), 0, 2)}, {0, tagged(sstpOf(t, better(), 4), 0, 4)},
	} {
		checkIn(t, "of no VLAN", b, x.at, x.f)
		checkCount(t, "of no VLAN", b, 0, n+1)
	}
	checkTable(t, "of no VLAN", b)
	checkPlaces(t, "of no VLAN, heard", heard(b))
	checkPlaces(t, "of no VLAN, blocked", guarded(b))
}

// P16.2: IEEE's BPDUs: of Native at an access port, of VLAN 1 at a trunk, whatever its Native, or a tag, is.
func TestIeee(t *testing.T) {
	for _, x := range []struct {
		at   int
		want []place
	}{{0, []place{{1, 0}}}, {1, []place{{1, 1}}}, {2, []place{{2, 2}}}, {3, []place{{1, 3}}}, {4, []place{{2, 4}}}, {5, []place{{1, 5}}}, {6, nil}, {7, nil}} {
		for _, f := range []api.Frame{ieee(t, better()), tagged(ieee(t, better()), 0, 0), tagged(ieee(t, better()), 7, 2), tagged(ieee(t, better()), 0, 4000)} {
			b := up(t, usual())
			name := "at " + strconv.Itoa(x.at)
			checkIn(t, name, b, x.at, f)
			checkPlaces(t, name, heard(b), x.want...)
			checkPlaces(t, name+", blocked", guarded(b))
			checkCount(t, name, b, 1, 0)
			checkTable(t, name, b)
			for _, y := range x.want {
				if p := b.instances[y.vlan].Ports()[y.at]; p.Role != 1 || p.Vector != better().Vector {
					t.Errorf("%s: %+v", name, p)
				}
			}
		}
	}
	// A trunk whose Native is one of its VLANs, but that isn't of VLAN 1; and a bridge that hasn't it.
	c := usual()
	c.Ports[7] = trunk(2, 2, 3)
	b := up(t, c)
	checkIn(t, "not of VLAN 1", b, 7, ieee(t, better()))
	checkPlaces(t, "not of VLAN 1", heard(b))
	checkCount(t, "not of VLAN 1", b, 1, 0)
	c = usual()
	c.Vlans = []int{2, 3}
	b = up(t, c)
	checkIn(t, "without VLAN 1", b, 0, ieee(t, better()))
	checkIn(t, "without VLAN 1", b, 3, ieee(t, better()))
	checkPlaces(t, "without VLAN 1", heard(b))
	checkCount(t, "without VLAN 1", b, 2, 0)
	// At a port that is off it is read, but nothing hears it.
	b = off(t, usual())
	was := whole(b)
	checkIn(t, "off", b, 0, ieee(t, better()))
	checkCount(t, "off", b, 1, 0)
	b.good = 0
	checkSame(t, "off", b, was)
}

// Notices and configurations are heard as such.
func TestIeeeKinds(t *testing.T) {
	b := up(t, usual())
	in(t, b, 3, ieee(t, notice()))
	if p := b.instances[1].Ports()[3]; p.Oper || p.SendRstp || !p.TcAck {
		t.Errorf("a notice: %+v", p)
	}
	in(t, b, 2, ieee(t, told(config, 0, vec(1, 0, 1, 1))))
	if p := b.instances[2].Ports()[2]; p.Oper || p.SendRstp || p.Role != 1 {
		t.Errorf("a configuration: %+v", p)
	}
	checkCount(t, "kinds", b, 2, 0)
}

// P0.4: BPDUs that can't be read are bad, and nothing hears them.
func TestUnreadable(t *testing.T) {
	old := told(config, 0, vec(1, 0, 1, 1))
	old.Age = old.Max
	oldInner, _ := bpdu.Print(old)
	oldTold, _ := sstp.Print(old, 2)
	inner, _ := bpdu.Print(better())
	withVlan, _ := sstp.Print(better(), 2)
	noticed, _ := bpdu.Print(notice())
	ieeeInner := []string{"", "\x00\x00\x02", inner[:35], "\x01" + inner[1:], inner[:3] + "\x05" + inner[4:], inner[:2] + "\x01" + inner[3:], oldInner}
	sstpInner := append(slices.Clone(ieeeInner), noticed+withVlan[36:], inner, withVlan[:42], withVlan[:40]+"\x01"+withVlan[41:], withVlan[:41]+"\x00\x00", withVlan[:41]+"\x0f\xff", oldTold)
	for _, x := range []struct {
		wrap  func(src, inner string) (api.Frame, api.Errno)
		inner []string
	}{{llc.Ieee, ieeeInner}, {llc.Sstp, sstpInner}} {
		for n, s := range x.inner {
			b := up(t, usual())
			was := whole(b)
			f, e := x.wrap(other, s)
			must(t, e)
			for _, at := range []int{0, 1, 2, 3, 4, 5, 6} {
				checkIn(t, strconv.Itoa(n), b, at, f)
			}
			checkCount(t, strconv.Itoa(n), b, 0, 7)
			b.bad = 0
			checkSame(t, strconv.Itoa(n), b, was)
		}
	}
	// Of no VLAN there, and unreadable: bad once.
	b := up(t, usual())
	f, _ := llc.Sstp(other, "")
	checkIn(t, "both", b, 2, tagged(f, 0, 2))
	checkCount(t, "both", b, 0, 1)
}

// P16.2: SSTP's BPDUs: the instance hears one of the VLAN that it came in of; where both ends don't agree the guard does.
func TestSstp(t *testing.T) {
	for n, x := range []struct {
		at, tag, told  int // a tag of -1 is none
		heard, blocked []place
	}{
		{0, -1, 1, []place{{1, 0}}, nil}, {0, 0, 1, []place{{1, 0}}, nil}, {0, 1, 1, []place{{1, 0}}, nil}, {0, 2, 2, []place{{2, 0}}, nil}, {0, 3, 3, []place{{3, 0}}, nil},
		{1, -1, 2, []place{{2, 1}}, nil}, {1, 1, 1, []place{{1, 1}}, nil}, {7, 2, 2, []place{{2, 7}}, nil}, {5, -1, 1, []place{{1, 5}}, nil},
		// Another VLAN is told: both are blocked there, as far as they go out there.
		{0, -1, 2, nil, []place{{1, 0}, {2, 0}}}, {0, 0, 3, nil, []place{{1, 0}, {3, 0}}}, {0, 2, 1, nil, []place{{1, 0}, {2, 0}}}, {0, 2, 3, nil, []place{{2, 0}, {3, 0}}},
		{0, 2, 4000, nil, []place{{2, 0}}}, {1, -1, 1, nil, []place{{1, 1}, {2, 1}}}, {7, 3, 2, nil, []place{{2, 7}, {3, 7}}}, {7, 3, 1, nil, []place{{3, 7}}}, {5, -1, 7, nil, []place{{1, 5}}}, {5, 1, 2, nil, []place{{1, 5}}},
		// An access port isn't to hear any: it is blocked, whatever is told, and its instance hears nothing.
		{2, -1, 2, nil, []place{{2, 2}}}, {2, 0, 2, nil, []place{{2, 2}}}, {2, -1, 1, nil, []place{{2, 2}}}, {3, -1, 1, nil, []place{{1, 3}}}, {4, -1, 4094, nil, []place{{2, 4}}},
		// A VLAN that the port isn't of, as the bridge hasn't it: nothing hears it.
		{5, 7, 7, nil, nil}, {5, 7, 1, nil, nil}, {6, -1, 7, nil, nil}, {6, -1, 1, nil, nil},
	} {
		b := up(t, usual())
		name := strconv.Itoa(n)
		f := sstpOf(t, better(), x.told)
		if x.tag >= 0 {
			f = tagged(f, n%8, x.tag)
		}
		checkIn(t, name, b, x.at, f)
		checkPlaces(t, name+" heard", heard(b), x.heard...)
		checkPlaces(t, name+" blocked", guarded(b), x.blocked...)
		checkCount(t, name, b, 1, 0)
		checkTable(t, name, b)
		for _, y := range x.blocked {
			checkMay(t, name, b, y.at, y.vlan, false, false)
		}
		if len(x.heard)+len(x.blocked) == 0 && b.ports[x.at].guard.Heard() != 0 {
			t.Error(name, "the guard heard it")
		}
		checkFree(t, name, b, x.blocked)
	}
}

// checkFree asks that all is blocked for three Hello times, at the tick that was, and free then.
func checkFree(t *testing.T, name string, b *Bridge, blocked []place) {
	t.Helper()
	if len(blocked) == 0 {
		return
	}
	ticks(b, 5)
	checkPlaces(t, name+" just blocked", guarded(b), blocked...)
	b.Tick()
	checkPlaces(t, name+" free", guarded(b))
	for _, y := range blocked {
		checkMay(t, name+" free", b, y.at, y.vlan, true, true)
	}
}

// P0.3: what tells so again blocks for so long again; the tree goes on beneath, and what is heard where both agree doesn't free the VLAN.
func TestGuard(t *testing.T) {
	b := up(t, usual())
	in(t, b, 0, sstpOf(t, better(), 2))
	ticks(b, 4)
	in(t, b, 0, tagged(sstpOf(t, worse(rapid, designated), 3), 0, 2))
	checkPlaces(t, "again", guarded(b), place{1, 0}, place{2, 0}, place{3, 0})
	ticks(b, 2)
	checkPlaces(t, "the first one is free", guarded(b), place{2, 0}, place{3, 0})
	in(t, b, 0, tagged(sstpOf(t, better(), 2), 0, 2))
	in(t, b, 0, tagged(sstpOf(t, better(), 3), 0, 3))
	checkPlaces(t, "heard while blocked", heard(b), place{2, 0}, place{3, 0})
	checkMay(t, "a root port that is blocked", b, 0, 2, false, false)
	checkMay(t, "another port", b, 1, 2, true, true)
	if p := b.instances[2].Ports()[0]; p.Role != 1 || !p.Forwarding {
		t.Errorf("beneath: %+v", p)
	}
	ticks(b, 3)
	checkPlaces(t, "just blocked", guarded(b), place{2, 0}, place{3, 0})
	b.Tick()
	checkPlaces(t, "free", guarded(b))
	checkMay(t, "free", b, 0, 2, true, true)
}

// What a bridge sends itself goes out where a guard blocks, too.
func TestSendWhereBlocked(t *testing.T) {
	b, free := up(t, usual()), up(t, usual())
	in(t, b, 1, sstpOf(t, better(), 1))
	in(t, b, 2, sstpOf(t, better(), 2))
	if got, want := b.Send(), free.Send(); len(want) == 0 || !slices.Equal(got, want) {
		t.Errorf("%#v, want %#v", got, want)
	}
}

// P16.2: what goes to a bridge's addresses, but is no BPDU's, nor SSTP's: nothing comes of it, and it isn't bad.
func TestReserved(t *testing.T) {
	b := up(t, usual())
	notSnap := host(station(1), sstpGroup)
	short := host(station(1), ieeeGroup)
	short.Payload, short.Type = "\x42\x42", 2
	was := whole(b)
	n := 0
	for _, f := range []api.Frame{host(station(1), ieeeGroup), short, notSnap, host(station(1), ieeeGroup[:5]+"\x01"), host(station(1), ieeeGroup[:5]+"\x0f"), tagged(notSnap, 0, 2), tagged(notSnap, 0, 4000)} {
		for at := range 8 {
			checkIn(t, "reserved", b, at, f)
			n++
		}
	}
	checkCount(t, "reserved", b, n, 0)
	b.good = 0
	checkSame(t, "reserved", b, was)
	// The address behind them is a group as any other one.
	f := tagged(host(station(1), ieeeGroup[:5]+"\x10"), 0, 3)
	checkIn(t, "not reserved", b, 0, f, sent(t, 1, f), sent(t, 7, f))
}

// P16.2, P16.3, P0.5: a host's frame goes out at each other port that may forward its VLAN, just once, as it goes out there, by rising ports.
func TestFlood(t *testing.T) {
	for _, dst := range []string{station(9), everybody, aGroup, ieeeGroup[:5] + "\x10", own} {
		f := host(station(1), dst)
		v1, v2, v3 := tagged(f, 0, 1), tagged(f, 0, 2), tagged(f, 0, 3)
		for n, x := range []struct {
			at   int
			f    api.Frame
			want []Sent
		}{
			{0, f, []Sent{sent(t, 1, v1), sent(t, 3, f), sent(t, 5, f)}},
			{0, v1, []Sent{sent(t, 1, v1), sent(t, 3, f), sent(t, 5, f)}},
			{0, v2, []Sent{sent(t, 1, f), sent(t, 2, f), sent(t, 4, f), sent(t, 7, v2)}},
			{0, v3, []Sent{sent(t, 1, v3), sent(t, 7, v3)}},
			{1, f, []Sent{sent(t, 0, v2), sent(t, 2, f), sent(t, 4, f), sent(t, 7, v2)}},
			{1, v2, []Sent{sent(t, 0, v2), sent(t, 2, f), sent(t, 4, f), sent(t, 7, v2)}},
			{1, v1, []Sent{sent(t, 0, f), sent(t, 3, f), sent(t, 5, f)}},
			{2, f, []Sent{sent(t, 0, v2), sent(t, 1, f), sent(t, 4, f), sent(t, 7, v2)}},
			{3, f, []Sent{sent(t, 0, f), sent(t, 1, v1), sent(t, 5, f)}},
			{5, f, []Sent{sent(t, 0, f), sent(t, 1, v1), sent(t, 3, f)}},
			{7, v3, []Sent{sent(t, 0, v3), sent(t, 1, v3)}},
			// A tag's Priority goes with it, also that of a tag without a VLAN.
			{0, tagged(f, 5, 2), []Sent{sent(t, 1, f), sent(t, 2, f), sent(t, 4, f), sent(t, 7, tagged(f, 5, 2))}},
			{2, tagged(f, 6, 0), []Sent{sent(t, 0, tagged(f, 6, 2)), sent(t, 1, f), sent(t, 4, f), sent(t, 7, tagged(f, 6, 2))}},
			// Of a VLAN that the bridge hasn't.
			{5, tagged(f, 0, 7), nil},
			{6, f, nil},
		} {
			b := up(t, usual())
			name := "flood " + strconv.Itoa(n)
			checkIn(t, name, b, x.at, x.f, x.want...)
			checkCount(t, name, b, 1, 0)
			if len(b.Table()) != min(len(x.want), 1) {
				t.Error(name, "learned", b.Table())
			}
		}
	}
	long := host(station(1), everybody)
	long.Payload = strings.Repeat("x", 1500)
	checkIn(t, "long", up(t, usual()), 1, long, sent(t, 0, tagged(long, 0, 2)), sent(t, 2, long), sent(t, 4, long), sent(t, 7, tagged(long, 0, 2)))
	short := api.Frame{Dst: everybody, Src: station(1)}
	checkIn(t, "of a length", up(t, usual()), 5, short, sent(t, 0, short), sent(t, 1, tagged(short, 0, 1)), sent(t, 3, short))
}

// P16.2: who was heard is where it was heard: a frame goes out there alone, and nowhere, if it came in there.
func TestKnown(t *testing.T) {
	b := up(t, usual())
	in(t, b, 2, host(station(1), everybody))
	in(t, b, 1, host(station(2), everybody))
	b.Tick()
	in(t, b, 7, tagged(host(station(3), everybody), 0, 2))
	checkTable(t, "learned", b, entry(2, 1, 2, 3), entry(2, 2, 1, 3), entry(2, 3, 7, 4))
	f := host(station(4), station(1))
	checkIn(t, "at another one", b, 4, f, sent(t, 2, f))
	checkIn(t, "where it came in", b, 2, f)
	checkIn(t, "of itself", b, 4, host(station(5), station(5)))
	checkIn(t, "tagged", b, 4, host(station(4), station(3)), sent(t, 7, tagged(host(station(4), station(3)), 0, 2)))
	checkIn(t, "without its tag", b, 0, tagged(host(station(4), station(2)), 3, 2), sent(t, 1, host(station(4), station(2))))
	// In another VLAN nobody knows it.
	f = host(station(6), station(1))
	checkIn(t, "in another VLAN", b, 3, f, sent(t, 0, f), sent(t, 1, tagged(f, 0, 1)), sent(t, 5, f))
	// It moved.
	in(t, b, 0, tagged(host(station(1), everybody), 0, 2))
	f = host(station(4), station(1))
	checkIn(t, "moved", b, 4, f, sent(t, 0, tagged(f, 0, 2)))
	checkIn(t, "moved, at the port where it was", b, 2, f, sent(t, 0, tagged(f, 0, 2)))
	checkTable(t, "behind it", b, entry(1, 6, 3, 4), entry(2, 1, 0, 4), entry(2, 2, 1, 3), entry(2, 3, 7, 4), entry(2, 4, 2, 4), entry(2, 5, 4, 4))
	checkCount(t, "behind it", b, 12, 0)
}

// To a host at a port that may not forward the VLAN any longer nothing goes out, at no other port either.
func TestKnownButBlocked(t *testing.T) {
	b := up(t, usual())
	in(t, b, 2, host(station(1), everybody))
	in(t, b, 0, tagged(host(station(2), everybody), 0, 2))
	in(t, b, 2, sstpOf(t, better(), 2))
	f := host(station(3), station(1))
	checkIn(t, "where it is blocked", b, 4, f)
	checkIn(t, "to all others", b, 4, host(station(3), everybody), sent(t, 0, tagged(host(station(3), everybody), 0, 2)), sent(t, 1, host(station(3), everybody)), sent(t, 7, tagged(host(station(3), everybody), 0, 2)))
	checkIn(t, "where it came in", b, 2, host(station(4), station(2)))
	if _, found := b.table.Find(2, station(4)); found {
		t.Error("learned where it is blocked")
	}
	checkCount(t, "dropped", b, 6, 0)
	ticks(b, 6)
	checkIn(t, "free", b, 4, f, sent(t, 2, f))
	checkIn(t, "free, back", b, 2, host(station(4), station(2)), sent(t, 0, tagged(host(station(4), station(2)), 0, 2)))
}

// disputed has the port at that place, of small's, not learn for so long as Delay, and not forward for as long again.
func disputed(t *testing.T, b *Bridge, at int) {
	t.Helper()
	in(t, b, at, ieee(t, worse(config, 0)))
	in(t, b, at, ieee(t, worse(rapid, learns)))
}

// P16.2, P0.1: at a port that may neither learn nor forward, that may learn alone, that may do both.
func TestLearnThenForward(t *testing.T) {
	c := small(5, 3)
	c.Times.Delay = 4
	b := up(t, c)
	disputed(t, b, 0)
	good := 2
	from, to := host(station(1), everybody), host(station(2), station(1))
	for tick := range 9 {
		learn, forward := tick >= 4, tick >= 8
		checkMay(t, "at "+strconv.Itoa(tick), b, 0, 5, learn, forward)
		var passed []Sent
		if forward {
			passed = []Sent{sent(t, 1, from), sent(t, 2, from)}
		}
		checkIn(t, "from there", b, 0, from, passed...)
		entries := []fdb.Entry{entry(5, 2, 1, 3+tick)}
		if learn {
			entries = slices.Insert(entries, 0, entry(5, 1, 0, 3+tick))
		}
		passed = []Sent{sent(t, 2, to)}
		if learn {
			passed = nil
		}
		if forward {
			passed = []Sent{sent(t, 0, to)}
		}
		checkIn(t, "to there", b, 1, to, passed...)
		checkTable(t, "at "+strconv.Itoa(tick), b, entries...)
		good += 2
		checkCount(t, "at "+strconv.Itoa(tick), b, good, 0)
		b.Tick()
	}
}

// The table has so much room: who was heard longest ago goes, ahead of the frame that is let out.
func TestRoom(t *testing.T) {
	c := small(5, 3)
	c.Room = 2
	b := up(t, c)
	in(t, b, 0, host(station(1), everybody))
	b.Tick()
	in(t, b, 1, host(station(2), everybody))
	f := host(station(3), station(1))
	checkIn(t, "it made room", b, 2, f, sent(t, 0, f), sent(t, 1, f))
	checkTable(t, "full", b, entry(5, 2, 1, 4), entry(5, 3, 2, 4))
}

// P16.1: Tick: the time is one more, all instances tick, and what is 300 old goes, not one tick sooner.
func TestTick(t *testing.T) {
	b := up(t, usual())
	in(t, b, 2, host(station(1), everybody))
	ticks(b, 7)
	in(t, b, 2, host(station(2), everybody))
	in(t, b, 5, host(station(2), everybody))
	b.Tick()
	in(t, b, 4, host(station(3), everybody))
	checkTable(t, "learned", b, entry(1, 2, 5, 10), entry(2, 1, 2, 3), entry(2, 2, 2, 10), entry(2, 3, 4, 11))
	ticks(b, 291)
	checkTable(t, "299 old", b, entry(1, 2, 5, 10), entry(2, 1, 2, 3), entry(2, 2, 2, 10), entry(2, 3, 4, 11))
	in(t, b, 4, host(station(3), everybody))
	b.Tick()
	checkTable(t, "300 old", b, entry(1, 2, 5, 10), entry(2, 2, 2, 10), entry(2, 3, 4, 302))
	ticks(b, 6)
	checkTable(t, "299 old, too", b, entry(1, 2, 5, 10), entry(2, 2, 2, 10), entry(2, 3, 4, 302))
	b.Tick()
	checkTable(t, "heard again", b, entry(2, 3, 4, 302))
	ticks(b, 291)
	checkTable(t, "heard again, 299 old", b, entry(2, 3, 4, 302))
	b.Tick()
	checkTable(t, "all gone", b)
	for _, vlan := range b.vlans {
		if p := b.instances[vlan].Ports()[0]; p.Hello != 0 {
			t.Errorf("VLAN %d: %+v", vlan, p)
		}
		b.Send()
		b.Tick()
		if p := b.instances[vlan].Ports()[0]; p.Hello != 1 {
			t.Errorf("VLAN %d, behind a tick: %+v", vlan, p)
		}
		ticks(b, 1)
	}
}

// P16.1: the time goes no further than layers 7 and 9 know times; what is done then is done as ever.
func TestLastTick(t *testing.T) {
	b := up(t, usual())
	b.now = 1<<40 - 2
	for _, want := range []int{1<<40 - 1, 1 << 40, 1 << 40, 1 << 40} {
		b.Tick()
		if b.now != want {
			t.Error(b.now, want)
		}
	}
	in(t, b, 2, host(station(1), everybody))
	checkTable(t, "learned", b, fdb.Entry{Vlan: 2, Mac: station(1), Port: 2, Heard: 1 << 40})
	in(t, b, 0, sstpOf(t, better(), 2))
	checkMay(t, "blocked", b, 0, 2, false, false)
	checkMay(t, "not blocked", b, 0, 3, true, true)
}

// agreed is of a bridge to which this one is the root.
func agreed() bpdu.Bpdu { return worse(rapid, 0x48) }

// connected has other bridges at all ports but the last two, which stay edges.
func connected(t *testing.T, c Config) *Bridge {
	t.Helper()
	b := up(t, c)
	for at := range len(c.Ports) - 2 {
		for _, vlan := range b.vlans {
			if c.Ports[at].Set.Trunk {
				in(t, b, at, tagged(sstpOf(t, agreed(), vlan), 0, vlan))
			} else {
				in(t, b, at, ieee(t, agreed()))
			}
		}
	}
	return b
}

// trunks is a bridge of the VLANs 1 and 2, with so many trunks of both.
func trunks(n int) Config {
	c := usual()
	c.Vlans, c.Ports = []int{1, 2}, nil
	for range n {
		c.Ports = append(c.Ports, trunk(1, 1, 2))
	}
	return c
}

// peopled has a host at each port, of each VLAN; some are of the same address.
func peopled(t *testing.T, b *Bridge) []fdb.Entry {
	t.Helper()
	for _, vlan := range b.vlans {
		for at := range b.ports {
			in(t, b, at, tagged(host(station(at), everybody), 0, vlan))
		}
	}
	l := b.Table()
	if len(l) != len(b.vlans)*len(b.ports) {
		t.Fatalf("%#v", l)
	}
	return l
}

// without answers l without the entries of a VLAN at those ports.
func without(l []fdb.Entry, vlan int, ports ...int) []fdb.Entry {
	return slices.DeleteFunc(slices.Clone(l), func(e fdb.Entry) bool { return e.Vlan == vlan && slices.Contains(ports, e.Port) })
}

// What is to be forgotten goes from the table, of the VLAN and the place that it names, and nothing else: behind In.
func TestForgetBehindIn(t *testing.T) {
	b := connected(t, trunks(5))
	all := peopled(t, b)
	// All other ports that aren't edges are told of the change.
	in(t, b, 1, tagged(sstpOf(t, told(rapid, changed, vec(1, 0, 1, 1)), 2), 0, 2))
	checkTable(t, "a change in VLAN 2", b, without(all, 2, 0, 2)...)
	b = connected(t, trunks(5))
	all = peopled(t, b)
	in(t, b, 0, ieee(t, told(rapid, changed, vec(1, 0, 1, 1))))
	checkTable(t, "a change in VLAN 1", b, without(all, 1, 1, 2)...)
}

// Behind Power: what was at a port that goes off goes, in all VLANs that it is of, and nothing else.
func TestForgetBehindPower(t *testing.T) {
	for at := range 5 {
		b := connected(t, trunks(5))
		all := peopled(t, b)
		must(t, b.Power(at, false))
		checkTable(t, "off", b, without(without(all, 1, at), 2, at)...)
		must(t, b.Power(at, true))
		checkTable(t, "on again", b, without(without(all, 1, at), 2, at)...)
	}
	b := up(t, usual())
	in(t, b, 2, host(station(1), everybody))
	in(t, b, 3, host(station(1), everybody))
	must(t, b.Power(6, false))
	must(t, b.Power(2, false))
	checkTable(t, "at an access port", b, entry(1, 1, 3, 3))
	// Nothing of a port that is off stays to be found by a frame.
	f := host(station(3), station(1))
	checkIn(t, "flooded again", b, 4, f, sent(t, 0, tagged(f, 0, 2)), sent(t, 1, f), sent(t, 7, tagged(f, 0, 2)))
}

// Behind Tick: the root isn't heard any more, and another port takes its port's place.
func TestForgetBehindTick(t *testing.T) {
	b := connected(t, trunks(6))
	in(t, b, 0, tagged(sstpOf(t, told(rapid, designated, vec(1, 0, 1, 1)), 2), 0, 2))
	ticks(b, 3)
	in(t, b, 1, tagged(sstpOf(t, told(rapid, designated, vec(1, 2, 3, 1)), 2), 0, 2))
	checkMay(t, "the root port", b, 0, 2, true, true)
	checkMay(t, "an alternate port", b, 1, 2, false, false)
	for _, at := range []int{0, 3, 4, 5} {
		in(t, b, at, tagged(host(station(at), everybody), 0, 2))
		in(t, b, at, tagged(host(station(at), everybody), 0, 1))
	}
	// Those that came to forward a while ago have told of it.
	b.Send()
	all := b.Table()
	ticks(b, 2)
	checkTable(t, "it holds yet", b, all...)
	b.Tick()
	checkMay(t, "another one takes its place", b, 1, 2, true, true)
	checkTable(t, "it holds no more", b, without(all, 2, 0, 2, 3)...)
}

// Behind Send, too, whatever it was by which it came to be.
func TestForgetBehindSend(t *testing.T) {
	b := connected(t, trunks(5))
	all := peopled(t, b)
	must(t, b.instances[2].Power(3, false))
	checkTable(t, "ahead", b, all...)
	b.Send()
	checkTable(t, "behind", b, without(all, 2, 3)...)
}

// And what is refused forgets nothing; nor does what only asks.
func TestForgetNotBehind(t *testing.T) {
	b := connected(t, trunks(5))
	all := peopled(t, b)
	must(t, b.instances[2].Power(3, false))
	b.Power(5, true)
	b.In(-1, "")
	b.May(3, 2)
	b.Count()
	checkTable(t, "not yet", b, all...)
	b.In(0, "")
	checkTable(t, "behind a bad frame", b, without(all, 2, 3)...)
}

// formOf tells what a frame is that a bridge sends itself: I or S, its tag, and its kind of BPDU, unless it is rapid.
func formOf(t *testing.T, s Sent) string {
	t.Helper()
	f, e := frame.Parse(s.Bytes)
	must(t, e)
	inner, e := llc.Inner(f)
	must(t, e)
	name := strconv.Itoa(s.Port) + " "
	var m bpdu.Bpdu
	if llc.Kind(f) == 1 {
		name += "I"
		m, e = bpdu.Parse(inner)
	} else {
		var vlan int
		m, vlan, e = sstp.Parse(inner)
		name += "S" + strconv.Itoa(vlan)
	}
	must(t, e)
	if f.Tagged {
		name += "t" + strconv.Itoa(f.Vlan)
	}
	if f.Src != own || f.Priority != 0 {
		name += " of " + f.Src
	}
	return name + []string{"", " config", " notice", ""}[m.Kind]
}

func checkSend(t *testing.T, name string, b *Bridge, want ...string) {
	t.Helper()
	var got []string
	for _, s := range b.Send() {
		got = append(got, formOf(t, s))
	}
	if !slices.Equal(got, want) {
		t.Errorf("%s: sends %q, want %q", name, got, want)
	}
}

// P16.2: Send: by rising VLANs, then places, in each port's forms.
func TestSendForms(t *testing.T) {
	b := up(t, usual())
	b.Send()
	checkSend(t, "just sent", b)
	ticks(b, 2)
	checkSend(t, "all", b,
		"0 I", "0 S1", "1 I", "1 S1t1", "3 I", "5 I", "5 S1",
		"0 S2t2", "1 S2", "2 I", "4 I", "7 S2t2",
		"0 S3t3", "1 S3t3", "7 S3t3")
	must(t, b.Power(0, false))
	must(t, b.Power(3, false))
	ticks(b, 2)
	checkSend(t, "two are off", b,
		"1 I", "1 S1t1", "5 I", "5 S1",
		"1 S2", "2 I", "4 I", "7 S2t2",
		"1 S3t3", "7 S3t3")
	// Beside a VLAN that rises, places do, whatever was on first.
	c := usual()
	c.Vlans, c.Ports = []int{2, 300}, []Port{trunk(300, 2, 300), access(300), trunk(1, 300)}
	b = off(t, c)
	for _, at := range []int{2, 1, 0} {
		must(t, b.Power(at, true))
	}
	checkSend(t, "without VLAN 1", b, "0 S2t2", "0 S300", "1 I", "2 S300t300")
}

// P16.2: of a notice there is no form that tells a VLAN.
func TestSendNotices(t *testing.T) {
	old := told(config, 0, vec(1, 0, 1, 1))
	b := up(t, usual())
	b.Send()
	in(t, b, 0, ieee(t, old))
	checkSend(t, "at a trunk, of VLAN 1", b, "0 I notice", "1 I", "1 S1t1", "3 I", "5 I", "5 S1")
	was := b.instances[2].Ports()[1]
	in(t, b, 1, sstpOf(t, old, 2))
	checkSend(t, "at a trunk, of VLAN 2", b, "0 S2t2", "2 I", "4 I", "7 S2t2")
	if is := b.instances[2].Ports()[1]; is.Role != 1 || is.SendRstp || is.TxCount != was.TxCount+1 {
		t.Errorf("at a trunk, of VLAN 2: %+v", is)
	}
	b = up(t, usual())
	b.Send()
	in(t, b, 2, ieee(t, old))
	checkSend(t, "at an access port", b, "0 S2t2", "1 S2", "2 I notice", "4 I", "7 S2t2")
}

// A configuration goes out in all forms, as a rapid one does.
func TestSendConfigs(t *testing.T) {
	b := up(t, usual())
	in(t, b, 1, ieee(t, notice()))
	in(t, b, 1, sstpOf(t, worse(config, 0), 2))
	in(t, b, 2, ieee(t, notice()))
	must(t, b.Power(0, false))
	must(t, b.Power(3, false))
	must(t, b.Power(4, false))
	must(t, b.Power(5, false))
	must(t, b.Power(7, false))
	checkSend(t, "configurations", b, "1 I config", "1 S1t1 config", "1 S2 config", "2 I config", "1 S3t3")
}

// P16.2: all bytes of what is sent, told by hand.
func TestSendBytes(t *testing.T) {
	const (
		numbers1 = "\x80\x01" + own + "\x00\x00\x00\x00" + "\x80\x01" + own + "\x80\x01" + "\x00\x00\x14\x00\x02\x00\x0f\x00"
		rapid1   = "\x00\x00\x02\x02\x0e" + numbers1 + "\x00"
		numbers5 = "\x80\x05" + own + "\x00\x00\x00\x00" + "\x80\x05" + own + "\x80\x01" + "\x00\x00\x14\x00\x02\x00\x0f\x00"
		rapid5   = "\x00\x00\x02\x02\x0e" + numbers5 + "\x00"
		toIeee   = ieeeGroup + own + "\x00\x27" + "\x42\x42\x03"
		snap     = "\x00\x33" + "\xaa\xaa\x03\x00\x00\x0c\x01\x0b"
	)
	for n, x := range []struct {
		vlans []int
		p     Port
		want  []Sent
	}{
		{[]int{5}, access(5), []Sent{{0, toIeee + rapid5}}},
		{[]int{1}, access(1), []Sent{{0, toIeee + rapid1}}},
		{[]int{1}, trunk(1, 1), []Sent{{0, toIeee + rapid1}, {0, sstpGroup + own + snap + rapid1 + "\x00\x00\x00\x00\x02\x00\x01"}}},
		{[]int{5}, trunk(1, 5), []Sent{{0, sstpGroup + own + "\x81\x00\x00\x05" + snap + rapid5 + "\x00\x00\x00\x00\x02\x00\x05"}}},
		{[]int{1, 5}, trunk(5, 1, 5), []Sent{{0, toIeee + rapid1}, {0, sstpGroup + own + "\x81\x00\x00\x01" + snap + rapid1 + "\x00\x00\x00\x00\x02\x00\x01"}, {0, sstpGroup + own + snap + rapid5 + "\x00\x00\x00\x00\x02\x00\x05"}}},
	} {
		c := usual()
		c.Vlans, c.Ports = x.vlans, []Port{x.p}
		b := off(t, c)
		must(t, b.Power(0, true))
		if out := b.Send(); !slices.Equal(out, x.want) {
			t.Errorf("%d: %#v, want %#v", n, out, x.want)
		}
		if out := b.Send(); len(out) != 0 {
			t.Errorf("%d, again: %#v", n, out)
		}
		checkCount(t, "sent", b, 0, 0)
		checkTable(t, "sent", b)
	}
	c := usual()
	c.Vlans, c.Ports = []int{5}, []Port{access(5)}
	b := up(t, c)
	in(t, b, 0, ieee(t, told(config, 0, vec(1, 0, 1, 1))))
	if out, want := b.Send(), []Sent{{0, ieeeGroup + own + "\x00\x07" + "\x42\x42\x03" + "\x00\x00\x00\x80"}}; !slices.Equal(out, want) {
		t.Errorf("a notice: %#v, want %#v", out, want)
	}
}

// P16.2: Table in layer 7's order; what it hands out, and what goes out, can be written to.
func TestTable(t *testing.T) {
	b := up(t, usual())
	in(t, b, 2, host(station(9), everybody))
	in(t, b, 4, host(station(1), everybody))
	in(t, b, 7, tagged(host(station(5), everybody), 0, 3))
	out := in(t, b, 3, host(station(7), everybody))
	want := []fdb.Entry{entry(1, 7, 3, 3), entry(2, 1, 4, 3), entry(2, 9, 2, 3), entry(3, 5, 7, 3)}
	checkTable(t, "in order", b, want...)
	l := b.Table()
	for at := range l {
		l[at] = fdb.Entry{}
	}
	for at := range out {
		out[at] = Sent{}
	}
	checkTable(t, "written to", b, want...)
	sends := b.Send()
	for at := range sends {
		sends[at] = Sent{}
	}
	f := host(station(8), station(9))
	checkIn(t, "written to", b, 4, f, sent(t, 2, f))
}

// P16.2: Count: bad frames, those that are dropped, those that are passed on, those that are heard, and those that are refused.
func TestCount(t *testing.T) {
	b := up(t, usual())
	counted := interface{ Count() (good, bad int) }(b)
	for n, x := range []struct {
		at        int
		s         string
		good, bad int
	}{
		{0, "", 0, 1}, {2, printed(t, host(station(1), everybody)), 1, 1}, {2, printed(t, host(station(2), station(1))), 2, 1}, {2, printed(t, tagged(host(station(1), everybody), 0, 2)), 2, 2},
		{6, printed(t, host(station(1), everybody)), 3, 2}, {-1, printed(t, host(station(1), everybody)), 3, 2}, {8, "", 3, 2}, {0, printed(t, ieee(t, better())), 4, 2}, {2, printed(t, sstpOf(t, better(), 2)), 5, 2},
		{3, printed(t, host(station(1), ieeeGroup)), 6, 2}, {7, printed(t, host(station(1), everybody)), 6, 3}, {0, printed(t, ieee(t, better()))[:30], 6, 4},
	} {
		b.In(x.at, x.s)
		if good, bad := counted.Count(); good != x.good || bad != x.bad {
			t.Errorf("%d: %d, %d", n, good, bad)
		}
	}
	b.Tick()
	b.Send()
	must(t, b.Power(0, false))
	checkCount(t, "nothing came in", b, 6, 4)
}

// model is a bridge as the chapter has it, of what the layers below answer, told in other words.
type model struct {
	c              Config
	now, good, bad int
	trees          map[int]*rstp.Instance
	table          *fdb.Table
	guards         []*mismatch.Guard
}

func newModel(t *testing.T, c Config) *model {
	t.Helper()
	m := &model{c: c, trees: map[int]*rstp.Instance{}}
	var l []rstp.Setup
	for at, p := range c.Ports {
		id, e := vector.Port(8, at+1)
		must(t, e)
		l = append(l, rstp.Setup{Id: id, Cost: p.Cost, Edge: p.Edge})
		g, e := mismatch.New(p.Set, c.Times.Hello)
		must(t, e)
		m.guards = append(m.guards, g)
	}
	for _, vlan := range c.Vlans {
		id, e := vector.Bridge(c.Priority, vlan, c.Mac)
		must(t, e)
		x, e := rstp.New(info.Bridge{Id: id, Times: c.Times}, l)
		must(t, e)
		m.trees[vlan] = x
	}
	m.table, _ = fdb.New(c.Room)
	return m
}

// tree answers the instance of vlan, if the port at that place is of it.
func (m *model) tree(at, vlan int) *rstp.Instance {
	if at < 0 || at >= len(m.c.Ports) || !vlanport.Has(m.c.Ports[at].Set, vlan) {
		return nil
	}
	return m.trees[vlan]
}

func (m *model) may(at, vlan int) (bool, bool) {
	x := m.tree(at, vlan)
	if x == nil || slices.Contains(m.guards[at].List(m.now), vlan) {
		return false, false
	}
	p := x.Ports()[at]
	return p.Learning, p.Forwarding
}

func (m *model) forget() {
	for vlan, x := range m.trees {
		for _, id := range x.Forgotten() {
			m.table.Flush(vlan, int(id-0x8001))
		}
	}
}

func (m *model) power(at int, on bool) {
	for _, vlan := range m.c.Vlans {
		if x := m.tree(at, vlan); x != nil {
			x.Power(at, on)
		}
	}
	m.forget()
}

func (m *model) tick() {
	m.now++
	for _, x := range m.trees {
		x.Tick()
	}
	m.table.Age(m.now, 300)
	m.forget()
}

func (m *model) in(at int, s string) (out []Sent) {
	set := m.c.Ports[at].Set
	f, wrong := frame.Parse(s)
	kind, inner := llc.Kind(f), ""
	if wrong == api.OK && (kind == 1 || kind == 2) {
		inner, wrong = llc.Inner(f)
	}
	vlan, toldVlan, b := set.Native, 0, bpdu.Bpdu{}
	if set.Trunk {
		vlan = 1
	}
	if wrong == api.OK && (kind == 0 || kind == 2) {
		vlan, wrong = vlanport.In(set, f)
	}
	if wrong == api.OK && kind == 1 {
		b, wrong = bpdu.Parse(inner)
	}
	if wrong == api.OK && kind == 2 {
		b, toldVlan, wrong = sstp.Parse(inner)
	}
	if wrong != api.OK {
		m.bad++
		return nil
	}
	m.good++
	x := m.tree(at, vlan)
	if x == nil || kind == 3 {
		return nil
	}
	if kind == 2 {
		m.guards[at].Hear(vlan, toldVlan, m.now)
	}
	if kind == 1 || kind == 2 && set.Trunk && vlan == toldVlan {
		x.Hear(at, b)
	}
	if kind == 0 {
		out = m.pass(at, vlan, f)
	}
	m.forget()
	return out
}

func (m *model) pass(at, vlan int, f api.Frame) (out []Sent) {
	learn, forward := m.may(at, vlan)
	if learn {
		m.table.Learn(vlan, f.Src, at, m.now)
	}
	var to []int
	for port := range m.c.Ports {
		to = append(to, port)
	}
	if home, ok := m.table.Find(vlan, f.Dst); ok && !frame.Group(f.Dst) {
		to = []int{home}
	}
	for _, port := range to {
		if _, may := m.may(port, vlan); may && forward && port != at {
			g, _ := vlanport.Out(m.c.Ports[port].Set, f, vlan)
			s, _ := frame.Print(g)
			out = append(out, Sent{port, s})
		}
	}
	return out
}

func (m *model) send() (out []Sent) {
	put := func(at int, f api.Frame, e api.Errno) {
		s, wrong := frame.Print(f)
		if e == api.OK && wrong == api.OK {
			out = append(out, Sent{at, s})
		}
	}
	for _, vlan := range m.c.Vlans {
		for _, o := range m.trees[vlan].Send() {
			set := m.c.Ports[o.Port].Set
			inner, _ := bpdu.Print(o.Bpdu)
			f, e := llc.Ieee(m.c.Mac, inner)
			if !set.Trunk || vlan == 1 {
				put(o.Port, f, e)
			}
			if !set.Trunk || o.Bpdu.Kind == 2 {
				continue
			}
			inner, _ = sstp.Print(o.Bpdu, vlan)
			f, _ = llc.Sstp(m.c.Mac, inner)
			f, e = vlanport.Out(set, f, vlan)
			put(o.Port, f, e)
		}
	}
	m.forget()
	return out
}

// mixed is a set-up at random, of few VLANs, that meet.
func mixed(r *rand.Rand) Config {
	c := Config{Mac: own, Priority: r.Intn(16), Times: state.Times{Max: 6 + r.Intn(35), Hello: 1 + r.Intn(2), Delay: 4 + r.Intn(5)}, Room: 1 + r.Intn(12)}
	some := func(n, of int) []int {
		l := r.Perm(of)[:n]
		for at := range l {
			l[at]++
		}
		slices.Sort(l)
		return l
	}
	c.Vlans = some(1+r.Intn(4), 5)
	for range 1 + r.Intn(6) {
		p := access(1 + r.Intn(5))
		if r.Intn(3) > 0 {
			p = trunk(1+r.Intn(5), some(r.Intn(6), 5)...)
		}
		p.Cost, p.Edge = uint64(r.Intn(4)), r.Intn(3) == 0
		c.Ports = append(c.Ports, p)
	}
	return c
}

// mixedBpdu is one that is right, at random; mostly it is better, or worse, than what the bridge itself says.
func mixedBpdu(r *rand.Rand) bpdu.Bpdu {
	if r.Intn(6) == 0 {
		return notice()
	}
	ids := []uint64{1, 2, 0x7001_0203_0405_0607, math.MaxUint64}
	b := told([]int{config, rapid, rapid}[r.Intn(3)], r.Intn(256), vec(ids[r.Intn(4)], uint64(r.Intn(6)), ids[r.Intn(4)], uint64(r.Intn(5))))
	if r.Intn(2) == 0 {
		b.Flags = []int{designated, designated | 2, changed, learns, 0x48, 0x7c}[r.Intn(6)]
	}
	b.Age, b.Max, b.Hello = r.Intn(4)*256, (3+r.Intn(20))*256, r.Intn(3)*256
	// These two have a port learn alone, some ticks later.
	if r.Intn(4) == 0 {
		b = []bpdu.Bpdu{worse(config, 0), worse(rapid, learns)}[r.Intn(2)]
	}
	return b
}

// mixedFrame is one as bytes, at random, of all kinds; some of them are spoilt.
func mixedFrame(t *testing.T, r *rand.Rand) string {
	f := host(station(r.Intn(6)), station(r.Intn(6)))
	if r.Intn(4) == 0 {
		f.Dst = []string{everybody, aGroup, own, ieeeGroup, sstpGroup, ieeeGroup[:5] + "\x0f"}[r.Intn(6)]
	}
	switch r.Intn(6) {
	case 0:
		f = ieee(t, mixedBpdu(r))
	case 1, 2:
		b := mixedBpdu(r)
		for b.Kind == 2 {
			b = mixedBpdu(r)
		}
		f = sstpOf(t, b, 1+r.Intn(5))
	}
	if r.Intn(3) > 0 {
		f = tagged(f, r.Intn(8), r.Intn(6))
	}
	s := printed(t, f)
	if r.Intn(12) == 0 {
		at := r.Intn(len(s))
		s = []string{s[:at], s[:at] + string([]byte{byte(r.Intn(256))}) + s[at+1:], s + "x"}[r.Intn(3)]
	}
	return s
}

// checkPassed asks what P16.3 promises of what goes out because of a frame.
func checkPassed(t *testing.T, b *Bridge, c Config, at int, s string, out []Sent) {
	t.Helper()
	if len(out) == 0 {
		return
	}
	f, e := frame.Parse(s)
	must(t, e)
	vlan, e := vlanport.In(c.Ports[at].Set, f)
	must(t, e)
	last := -1
	for _, o := range out {
		g, e := frame.Parse(o.Bytes)
		must(t, e)
		left, e := vlanport.In(c.Ports[o.Port].Set, g)
		must(t, e)
		if _, forward := b.May(o.Port, vlan); !forward || left != vlan || o.Port == at || o.Port <= last {
			t.Fatalf("in at %d of %d, out at %d of %d: %t", at, vlan, o.Port, left, forward)
		}
		if g.Dst != f.Dst || g.Src != f.Src || g.Type != f.Type || g.Payload != f.Payload {
			t.Fatalf("%q, was %q", o.Bytes, s)
		}
		last = o.Port
	}
	if _, forward := b.May(at, vlan); !forward {
		t.Fatal("passed on from where it may not be forwarded", at, vlan)
	}
}

func checkModel(t *testing.T, b *Bridge, m *model, met map[string]int) {
	t.Helper()
	for at := -1; at <= len(m.c.Ports); at++ {
		for vlan := range 7 {
			learn, forward := m.may(at, vlan)
			checkMay(t, "at random", b, at, vlan, learn, forward)
			met["may "+strconv.FormatBool(learn)+" "+strconv.FormatBool(forward)]++
		}
	}
	checkTable(t, "at random", b, m.table.List()...)
	checkCount(t, "at random", b, m.good, m.bad)
}

// P16.1 to P16.3: acts at random, of bridges at random, held against the chapter.
func TestActs(t *testing.T) {
	r := rand.New(rand.NewSource(16))
	met := map[string]int{}
	for range 400 {
		c := mixed(r)
		b, m := off(t, c), newModel(t, c)
		for range 120 {
			at := r.Intn(len(c.Ports))
			switch act := r.Intn(20); {
			case act < 3:
				on := r.Intn(4) > 0
				m.power(at, on)
				must(t, b.Power(at, on))
			case act < 14:
				s := mixedFrame(t, r)
				want := m.in(at, s)
				out, e := b.In(at, s)
				must(t, e)
				if !slices.Equal(out, want) {
					t.Fatalf("%+v: in at %d %#v: %#v, want %#v", c, at, s, out, want)
				}
				checkPassed(t, b, c, at, s, out)
				met["passed"] += len(out)
			case act < 19:
				m.tick()
				b.Tick()
			default:
				want := m.send()
				if out := b.Send(); !slices.Equal(out, want) {
					t.Fatalf("%+v: sends %#v, want %#v", c, out, want)
				}
				met["sent"] += len(want)
			}
			checkModel(t, b, m, met)
			if t.Failed() {
				t.FailNow()
			}
		}
		met["good"] += m.good
		met["bad"] += m.bad
	}
	for _, name := range []string{"passed", "sent", "good", "bad", "may true true", "may true false", "may false false"} {
		if met[name] < 100 {
			t.Error(name, "met", met[name])
		}
	}
}

// Rule 4, P0.6: the same is answered to the same acts, whatever other bridges did between.
func TestSameAgain(t *testing.T) {
	acts := func(seed int64, between func()) []any {
		r := rand.New(rand.NewSource(seed))
		c := mixed(r)
		b := off(t, c)
		var answers []any
		for range 40 {
			at := r.Intn(len(c.Ports))
			must(t, b.Power(at, r.Intn(5) > 0))
			out, e := b.In(at, mixedFrame(t, r))
			between()
			b.Tick()
			answers = append(answers, out, e, b.Send(), whole(b))
		}
		return answers
	}
	for seed := range int64(5) {
		first := acts(seed, func() {})
		second := acts(seed, func() { acts(seed+100, func() {}) })
		if !reflect.DeepEqual(first, second) {
			t.Error(seed)
		}
	}
}

// Rule 5: no call panics, whatever numbers and texts it is handed.
func TestWhatever(t *testing.T) {
	r := rand.New(rand.NewSource(5))
	numbers := []int{math.MinInt, -1, 0, 1, 2, 7, 8, 15, 16, 4094, 4095, 1 << 32, math.MaxInt}
	number := func() int { return numbers[r.Intn(len(numbers))] }
	b := up(t, usual())
	for range 3000 {
		junk := make([]byte, r.Intn(80))
		r.Read(junk)
		b.In(number(), string(junk))
		b.In(r.Intn(8), string(junk))
		b.In(r.Intn(8), ieeeGroup+station(1)+string(junk))
		b.In(r.Intn(8), sstpGroup+station(1)+string(junk))
		b.May(number(), number())
		b.Power(number(), r.Intn(2) == 0)
	}
	b.Tick()
	b.Send()
}

// end is a place of a bridge among several.
type end struct{ bridge, port int }

// lan is bridges that are linked, each with a host of each VLAN at the ports from 2 on.
type lan struct {
	t     *testing.T
	vlans []int
	l     []*Bridge
	links map[end]end
}

// linked is a lan of bridges of a set-up, each of an address of its own, whose ports are on.
func linked(t *testing.T, n int, c Config, pairs ...[2]end) *lan {
	t.Helper()
	net := &lan{t: t, vlans: c.Vlans, links: map[end]end{}}
	for at := range n {
		c.Mac = "\x02sw00" + string([]byte{byte('1' + at)})
		b := off(t, c)
		for port := range c.Ports {
			must(t, b.Power(port, true))
		}
		net.l = append(net.l, b)
	}
	for _, p := range pairs {
		net.links[p[0]], net.links[p[1]] = p[1], p[0]
	}
	return net
}

// carry brings all that was sent to the links' other ends, and what goes out because of it, too; what is left comes to hosts.
func (n *lan) carry(from int, out []Sent) map[end]int {
	n.t.Helper()
	type way struct {
		to    end
		bytes string
	}
	var ways []way
	hosts := map[end]int{}
	put := func(from int, out []Sent) {
		for _, o := range out {
			if to, ok := n.links[end{from, o.Port}]; ok {
				ways = append(ways, way{to, o.Bytes})
			} else {
				hosts[end{from, o.Port}]++
			}
		}
	}
	put(from, out)
	for carried := 0; len(ways) > 0; carried++ {
		if carried > 500 {
			n.t.Fatal("a frame goes round")
		}
		w := ways[0]
		ways = ways[1:]
		out, e := n.l[w.to.bridge].In(w.to.port, w.bytes)
		must(n.t, e)
		put(w.to.bridge, out)
	}
	return hosts
}

// exchange has all that is sent heard at the other ends, till nobody sends anything.
func (n *lan) exchange() {
	n.t.Helper()
	for range 50 {
		quiet := true
		for at, b := range n.l {
			out := b.Send()
			n.carry(at, out)
			quiet = quiet && len(out) == 0
		}
		if quiet {
			return
		}
	}
	n.t.Error("no end of sending")
}

// tick lets time go on, and at each tick has frames to everybody sent, that may not go round.
func (n *lan) tick(times int) {
	n.t.Helper()
	for range times {
		for _, b := range n.l {
			b.Tick()
		}
		n.exchange()
		for at := range n.l {
			for port := range n.vlans {
				n.from(end{at, 2 + port}, host(station(at), everybody))
			}
		}
	}
}

// from brings a host's frame, and answers to which hosts it comes, and how often.
func (n *lan) from(at end, f api.Frame) map[end]int {
	n.t.Helper()
	return n.carry(at.bridge, in(n.t, n.l[at.bridge], at.port, f))
}

// closed answers the linked ends that don't forward vlan.
func (n *lan) closed(vlan int) []end {
	var out []end
	for at, b := range n.l {
		for port := range b.ports {
			_, forward := b.May(port, vlan)
			if _, ok := n.links[end{at, port}]; ok && !forward {
				out = append(out, end{at, port})
			}
		}
	}
	return out
}

// check asks that just these linked ends don't forward, in any of those VLANs; that a frame to everybody comes to each other host of its VLAN just once, and one to a host that was heard to it alone.
func (n *lan) check(name string, vlans []int, closed ...end) {
	n.t.Helper()
	for _, vlan := range vlans {
		if got := n.closed(vlan); !slices.Equal(got, closed) {
			n.t.Errorf("%s: VLAN %d: closed %v, want %v", name, vlan, got, closed)
		}
		port := 2 + slices.Index(n.vlans, vlan)
		for at := range n.l {
			want := map[end]int{}
			for to := range n.l {
				if to != at {
					want[end{to, port}] = 1
				}
			}
			if got := n.from(end{at, port}, host(station(at), everybody)); !reflect.DeepEqual(got, want) {
				n.t.Errorf("%s: VLAN %d from %d: %v, want %v", name, vlan, at, got, want)
			}
		}
		for at := range n.l {
			for to := range n.l {
				want := map[end]int{}
				if to != at {
					want[end{to, port}] = 1
				}
				if got := n.from(end{at, port}, host(station(at), station(to))); !reflect.DeepEqual(got, want) {
					n.t.Errorf("%s: VLAN %d from %d to %d: %v, want %v", name, vlan, at, to, got, want)
				}
			}
		}
	}
}

// power has the linked ends on, or off.
func (n *lan) power(on bool, ends ...end) {
	n.t.Helper()
	for _, x := range ends {
		must(n.t, n.l[x.bridge].Power(x.port, on))
	}
	n.exchange()
}

// switches is of some VLANs: two trunks, and a port for a host of each VLAN.
func switches(native int, vlans ...int) Config {
	c := usual()
	c.Vlans, c.Ports = vlans, []Port{trunk(native, vlans...), trunk(native, vlans...)}
	for _, vlan := range vlans {
		p := access(vlan)
		p.Edge = true
		c.Ports = append(c.Ports, p)
	}
	return c
}

// Two bridges, twice linked: one of the ends blocks, in each VLAN; a cut link is gone round, and comes back.
func TestTwoBridges(t *testing.T) {
	for native := range 3 {
		vlans := []int{1, 2, 300}
		n := linked(t, 2, switches(native+1, vlans...), [2]end{{0, 0}, {1, 0}}, [2]end{{0, 1}, {1, 1}})
		n.exchange()
		n.tick(40)
		n.check("twice linked", vlans, end{1, 1})
		n.power(false, end{0, 0}, end{1, 0})
		n.tick(1)
		n.check("once linked", vlans, end{0, 0}, end{1, 0})
		n.power(true, end{0, 0}, end{1, 0})
		n.tick(40)
		n.check("linked again", vlans, end{1, 1})
	}
}

// Two bridges whose access ports are linked, twice: IEEE's BPDUs alone go there, so the VLANs may have other numbers at both ends.
func TestAccessLinks(t *testing.T) {
	n := linked(t, 2, small(5, 3), [2]end{{0, 0}, {1, 0}}, [2]end{{0, 1}, {1, 1}})
	c := small(6, 3)
	c.Priority = 9
	n.l[1] = off(t, c)
	n.power(true, end{1, 0}, end{1, 1}, end{1, 2})
	n.tick(40)
	// Beside the ends that aren't of that VLAN.
	if !slices.Equal(n.closed(5), []end{{1, 0}, {1, 1}}) || !slices.Equal(n.closed(6), []end{{0, 0}, {0, 1}, {1, 1}}) {
		t.Error("closed", n.closed(5), n.closed(6))
	}
	for at := range n.l {
		if got := n.from(end{at, 2}, host(station(at), everybody)); !reflect.DeepEqual(got, map[end]int{{1 - at, 2}: 1}) {
			t.Errorf("from %d: comes to %v", at, got)
		}
	}
}

// A loop of three: just one end doesn't forward, and no frame goes round at any tick; a link that is broken, and comes back.
func TestRing(t *testing.T) {
	vlans := []int{1, 2, 3}
	n := linked(t, 3, switches(1, vlans...), [2]end{{0, 1}, {1, 0}}, [2]end{{1, 1}, {2, 0}}, [2]end{{2, 1}, {0, 0}})
	n.exchange()
	n.tick(40)
	n.check("a ring", vlans, end{2, 0})
	n.power(false, end{0, 1}, end{1, 0})
	n.tick(1)
	// Not VLAN 1: its BPDUs come at a trunk in two forms, both are heard, and the second one disputes what the first one brought about.
	n.check("a link is broken", vlans[1:], end{0, 1}, end{1, 0})
	n.power(true, end{0, 1}, end{1, 0})
	n.tick(40)
	n.check("it is back", vlans, end{2, 0})
	// At a link that is gone without the bridges' being told nothing is heard any more.
	for _, x := range []end{{0, 1}, {1, 0}} {
		delete(n.links, x)
	}
	n.tick(40)
	for _, vlan := range vlans[1:] {
		if got := n.closed(vlan); len(got) != 0 {
			t.Errorf("a link that is gone: VLAN %d: closed %v", vlan, got)
		}
	}
}

// P0.3: the ends of a link don't agree on its Native: both VLANs are blocked there as long as the bridges speak, and a third one is not.
func TestMismatch(t *testing.T) {
	vlans := []int{1, 2, 3}
	n := linked(t, 2, switches(1, vlans...), [2]end{{0, 0}, {1, 0}})
	c := switches(2, vlans...)
	c.Mac = "\x02sw009"
	n.l[1] = off(t, c)
	for port := range c.Ports {
		n.power(true, end{1, port})
	}
	for tick := range 30 {
		for _, vlan := range []int{1, 2} {
			if got := n.closed(vlan); !slices.Equal(got, []end{{0, 0}, {1, 0}}) {
				t.Fatalf("at %d: VLAN %d: closed %v", tick, vlan, got)
			}
			for at := range n.l {
				for to := range n.from(end{at, 1 + vlan}, host(station(1), everybody)) {
					if to.bridge != at {
						t.Fatalf("at %d: VLAN %d from %d: comes to %v", tick, vlan, at, to)
					}
				}
			}
		}
		n.tick(1)
	}
	if got := n.closed(3); len(got) != 0 {
		t.Error("the third one: closed", got)
	}
	if got := n.from(end{0, 4}, host(station(1), everybody)); got[end{1, 4}] != 1 {
		t.Error("the third one: comes to", got)
	}
}
