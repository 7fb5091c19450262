package state

import (
	"math"
	"math/rand"
	"reflect"
	"strconv"
	"testing"

	"treebridge/api"
	"treebridge/bpdu"
)

const all = math.MaxUint64

// timerNames are told by hand, as are the numbers below.
var timerNames = [8]string{"Fd", "Rr", "Rb", "Tc", "Edge", "Md", "Info", "Hello"}

// timerOf answers a timer by its place in timerNames, without what the package has of them.
func timerOf(p *Port, at int) *int {
	return reflect.ValueOf(p).Elem().FieldByName(timerNames[at]).Addr().Interface().(*int)
}

// full has nothing that is zero, and no two numbers that are the same.
func full() Port {
	return Port{
		Id: 0x8001, Cost: 20000,
		On: true, Admin: true, Oper: true,
		Source: 3,
		Vector: api.Vector{Root: 101, Cost: 102, Bridge: 103, Port: 104},
		Times:  Times{Age: 111, Max: 112, Hello: 113, Delay: 114},
		Offer:  api.Vector{Root: 121, Cost: 122, Bridge: 123, Port: 124},
		Given:  Times{Age: 131, Max: 132, Hello: 133, Delay: 134},
		Role:   2, Selected: 4,
		Ready: true, Update: true, Reselect: true,
		Learn: true, Learning: true, Forward: true, Forwarding: true,
		Agree: true, Agreed: true, Proposed: true, Proposing: true, Sync: true, Synced: true, Reroot: true, Disputed: true,
		NewInfo: true, HeardTc: true, HeardTcn: true, HeardAck: true, TcAck: true, TcProp: true, Flush: true,
		SendRstp: true, HeardRstp: true, HeardStp: true, Check: true,
		Fd: 21, Rr: 22, Rb: 23, Tc: 24, Edge: 25, Md: 26, Info: 27, Hello: 28,
		TxCount: 29,
		Change:  31, Migrate: 32,
	}
}

func TestFullIsFull(t *testing.T) {
	v := reflect.ValueOf(full())
	for at := range v.NumField() {
		if v.Field(at).IsZero() {
			t.Error(v.Type().Field(at).Name, "is zero")
		}
	}
}

// P10.1: a new port, with and without edge, all else zero.
func TestNew(t *testing.T) {
	for _, id := range []uint64{0, 1, 0x8001, 65535, 65536, all} {
		for _, cost := range []uint64{0, 1, 20000, 1<<32 - 1, 1 << 32, all} {
			if p := New(id, cost, false); p != (Port{Id: id, Cost: cost, SendRstp: true}) {
				t.Errorf("New(%d, %d, false): %#v", id, cost, p)
			}
			if p := New(id, cost, true); p != (Port{Id: id, Cost: cost, Admin: true, Oper: true, SendRstp: true}) {
				t.Errorf("New(%d, %d, true): %#v", id, cost, p)
			}
			for _, edge := range []bool{false, true} {
				if p := New(id, cost, edge); Waits(p) != 0 || Tick(p) != p || Flags(p, false) != 0 || Flags(p, true) != 0 {
					t.Errorf("New(%d, %d, %v) isn't at rest: %#v", id, cost, edge, p)
				}
			}
		}
	}
}

// ticked are numbers, and what they are behind a tick.
var ticked = []struct{ n, behind int }{
	{math.MinInt, math.MinInt}, {-2, -2}, {-1, -1}, {0, 0}, {1, 0}, {2, 1}, {3, 2}, {15, 14}, {256, 255},
	{1 << 32, 1<<32 - 1}, {math.MaxInt, math.MaxInt - 1},
}

// checkTick asks for a port's tick, and that the port that was handed in stays.
func checkTick(t *testing.T, name string, p, want Port) {
	t.Helper()
	was := p
	if behind := Tick(p); behind != want {
		t.Errorf("%s: %#v, want %#v", name, behind, want)
	}
	if p != was {
		t.Errorf("%s: what was handed in came to be %#v", name, p)
	}
}

// P10.1: each timer by itself, in a port where all else is zero, and in one where nothing is.
func TestTickOfOneTimer(t *testing.T) {
	busy := full()
	for at := range timerNames {
		*timerOf(&busy, at) = 0
	}
	busy.TxCount = 0
	for at, name := range timerNames {
		for _, x := range ticked {
			for _, p := range []Port{{}, busy} {
				want := p
				*timerOf(&p, at), *timerOf(&want, at) = x.n, x.behind
				checkTick(t, name+" "+strconv.Itoa(x.n), p, want)
			}
		}
	}
}

// P10.1: of TxCount, which is no timer.
func TestTickOfTxCount(t *testing.T) {
	for _, x := range ticked {
		checkTick(t, "TxCount "+strconv.Itoa(x.n), Port{TxCount: x.n}, Port{TxCount: x.behind})
		p := full()
		p.TxCount = x.n
		want := fullBehind(1)
		want.TxCount = x.behind
		checkTick(t, "full with TxCount "+strconv.Itoa(x.n), p, want)
	}
}

// fullBehind answers full behind so many ticks, fewer than any of its timers.
func fullBehind(ticks int) Port {
	p := full()
	p.Fd, p.Rr, p.Rb, p.Tc, p.Edge, p.Md, p.Info, p.Hello = 21-ticks, 22-ticks, 23-ticks, 24-ticks, 25-ticks, 26-ticks, 27-ticks, 28-ticks
	p.TxCount = 29 - ticks
	return p
}

// P10.1: all timers together, and all other fields stay as they were.
func TestTickOfAllTimers(t *testing.T) {
	for ticks := range 20 {
		checkTick(t, strconv.Itoa(ticks), fullBehind(ticks), fullBehind(ticks+1))
	}
	for _, x := range ticked {
		p := full()
		want := full()
		for at := range timerNames {
			*timerOf(&p, at), *timerOf(&want, at) = x.n, x.behind
		}
		p.TxCount, want.TxCount = x.n, x.behind
		checkTick(t, "all "+strconv.Itoa(x.n), p, want)
	}
}

// P10.1: how many timers are above 0, from none to all, each set of them, in what is below or at 0 else.
func TestWaits(t *testing.T) {
	for _, idle := range []int{0, -1, math.MinInt} {
		for _, running := range []int{1, 2, math.MaxInt} {
			for set := range 1 << len(timerNames) {
				p, want := full(), 0
				for at := range timerNames {
					*timerOf(&p, at) = idle
					if set>>at&1 != 0 {
						*timerOf(&p, at) = running
						want++
					}
				}
				was := p
				if n := Waits(p); n != want || p != was {
					t.Fatalf("%08b of %d and %d: %d, want %d", set, running, idle, n, want)
				}
			}
		}
	}
	if n := Waits(Port{TxCount: 5, Change: 1, Migrate: 1, Times: Times{1, 2, 3, 4}}); n != 0 {
		t.Errorf("no timer: %d", n)
	}
}

// P10.2: behind as many ticks as its greatest timer none runs, and behind fewer one does.
func TestNoneRunsBehindTheGreatest(t *testing.T) {
	r := rand.New(rand.NewSource(1))
	for range 500 {
		p, greatest := full(), 0
		for at := range timerNames {
			n := r.Intn(40) - 10
			*timerOf(&p, at) = n
			greatest = max(greatest, n)
		}
		for tick := range greatest {
			if Waits(p) == 0 {
				t.Fatalf("none runs behind %d of %d ticks", tick, greatest)
			}
			p = Tick(p)
		}
		if Waits(p) != 0 {
			t.Fatalf("%d run behind %d ticks: %#v", Waits(p), greatest, p)
		}
	}
}

// noRoles are numbers that are no role; many of them are one in their lower bits.
var noRoles = []int{
	math.MinInt, math.MinInt + 2, -1 << 32, -1<<32 + 2, -256, -255, -4, -3, -2, -1,
	5, 6, 7, 8, 9, 10, 16, 18, 255, 256, 258, 1 << 32, 1<<32 + 2, math.MaxInt - 1, math.MaxInt,
}

// P10.1: each flag by itself, each role, and all together, of a rapid BPDU and of a configuration.
func TestFlags(t *testing.T) {
	for _, x := range []struct {
		name          string
		p             Port
		rapid, config int
	}{
		{"none", Port{}, 0, 0},
		{"Tc 1", Port{Tc: 1}, 0x01, 0x01},
		{"Tc 2", Port{Tc: 2}, 0x01, 0x01},
		{"Tc far", Port{Tc: math.MaxInt}, 0x01, 0x01},
		{"Tc -1", Port{Tc: -1}, 0, 0},
		{"Tc farther", Port{Tc: math.MinInt}, 0, 0},
		{"Proposing", Port{Proposing: true}, 0x02, 0},
		{"role 0", Port{Role: 0}, 0, 0},
		{"role 1", Port{Role: 1}, 0x08, 0},
		{"role 2", Port{Role: 2}, 0x0c, 0},
		{"role 3", Port{Role: 3}, 0x04, 0},
		{"role 4", Port{Role: 4}, 0x04, 0},
		{"Learning", Port{Learning: true}, 0x10, 0},
		{"Forwarding", Port{Forwarding: true}, 0x20, 0},
		{"Agree", Port{Agree: true}, 0x40, 0},
		{"TcAck", Port{TcAck: true}, 0, 0x80},
		{"Tc and TcAck", Port{Tc: 3, TcAck: true}, 0x01, 0x81},
		{"designated, proposing", Port{Role: 2, Proposing: true}, 0x0e, 0},
		{"root, agreeing", Port{Role: 1, Agree: true, Learning: true, Forwarding: true}, 0x78, 0},
		{"all", full(), 0x7f, 0x81},
	} {
		was := x.p
		if f := Flags(x.p, false); f != x.rapid {
			t.Errorf("%s: %#x, want %#x", x.name, f, x.rapid)
		}
		if f := Flags(x.p, true); f != x.config {
			t.Errorf("%s of a configuration: %#x, want %#x", x.name, f, x.config)
		}
		if x.p != was {
			t.Errorf("%s: what was handed in came to be %#v", x.name, x.p)
		}
	}
}

// P10.1: a Role that is none counts as 0.
func TestFlagsOfNoRole(t *testing.T) {
	for _, role := range noRoles {
		p := full()
		p.Role = role
		if f := Flags(p, false); f != 0x73 {
			t.Errorf("role %d: %#x, want 0x73", role, f)
		}
		if f := Flags(p, true); f != 0x81 {
			t.Errorf("role %d of a configuration: %#x, want 0x81", role, f)
		}
	}
}

// P10.1: what flags don't tell of doesn't come into them.
func TestFlagsHangOnNothingElse(t *testing.T) {
	p := full()
	p.Tc, p.Proposing, p.Role, p.Learning, p.Forwarding, p.Agree, p.TcAck = 0, false, 0, false, false, false, false
	if Flags(p, false) != 0 || Flags(p, true) != 0 {
		t.Errorf("%#x %#x, want none", Flags(p, false), Flags(p, true))
	}
}

// P10.1: times whose parts are whole and aren't; a Hello of 0, and of less than a second.
func TestTimesOf(t *testing.T) {
	for _, x := range []struct {
		b    bpdu.Bpdu
		want Times
	}{
		{bpdu.Bpdu{Kind: 3}, Times{0, 0, 1, 0}},
		{bpdu.Bpdu{Kind: 3, Age: 256, Max: 20 * 256, Hello: 2 * 256, Delay: 15 * 256}, Times{1, 20, 2, 15}},
		{bpdu.Bpdu{Kind: 1, Age: 256, Max: 20 * 256, Hello: 2 * 256, Delay: 15 * 256}, Times{1, 20, 2, 15}},
		{bpdu.Bpdu{Kind: 3, Age: 257, Max: 20*256 + 128, Hello: 2*256 + 255, Delay: 16*256 - 1}, Times{1, 20, 2, 15}},
		{bpdu.Bpdu{Kind: 3, Age: 255, Max: 255, Hello: 255, Delay: 255}, Times{0, 0, 1, 0}},
		{bpdu.Bpdu{Kind: 3, Age: 1, Max: 1, Hello: 1, Delay: 1}, Times{0, 0, 1, 0}},
		{bpdu.Bpdu{Kind: 3, Age: 256, Max: 256, Hello: 256, Delay: 256}, Times{1, 1, 1, 1}},
		{bpdu.Bpdu{Kind: 3, Age: 511, Max: 511, Hello: 511, Delay: 511}, Times{1, 1, 1, 1}},
		{bpdu.Bpdu{Kind: 3, Age: 512, Max: 512, Hello: 512, Delay: 512}, Times{2, 2, 2, 2}},
		{bpdu.Bpdu{Kind: 3, Age: 65535, Max: 65535, Hello: 65535, Delay: 65535}, Times{255, 255, 255, 255}},
		{bpdu.Bpdu{Kind: 3, Age: 0, Max: 6 * 256, Hello: 0, Delay: 4 * 256}, Times{0, 6, 1, 4}},
		{bpdu.Bpdu{Kind: 2}, Times{0, 0, 1, 0}},
		{bpdu.Bpdu{Kind: 9, Flags: 300, Age: 1 << 40, Max: 65536, Hello: 65536, Delay: math.MaxInt}, Times{1 << 32, 256, 256, math.MaxInt / 256}},
		{bpdu.Bpdu{Kind: 3, Age: -1, Max: -256, Hello: -257, Delay: -255}, Times{-1, -1, -2, -1}},
	} {
		if got := TimesOf(x.b); got != x.want {
			t.Errorf("%#v: %#v, want %#v", x.b, got, x.want)
		}
	}
}

// told is what the ports below heard: of a root 50 at 500, sent by the bridge 0x8001000000000007 at its port 0x8003.
var told = api.Vector{Root: 50, Cost: 500, Bridge: 0x8001000000000007, Port: 0x8003}

func rapid(flags int) bpdu.Bpdu {
	return bpdu.Bpdu{Kind: 3, Flags: flags, Vector: told, Age: 256, Max: 20 * 256, Hello: 2 * 256, Delay: 15 * 256}
}

func config(flags int) bpdu.Bpdu {
	b := rapid(flags)
	b.Kind = 1
	return b
}

// knowing is a port that knows v, with the times of those BPDUs.
func knowing(source int, v api.Vector) Port {
	p := full()
	p.Source, p.Vector, p.Times = source, v, Times{Age: 1, Max: 20, Hello: 2, Delay: 15}
	return p
}

func checkHeard(t *testing.T, name string, p Port, b bpdu.Bpdu, want int) {
	t.Helper()
	was := p
	if k := Heard(p, b); k != want {
		t.Errorf("%s: %d, want %d", name, k, want)
	}
	if p != was {
		t.Errorf("%s: what was handed in came to be %#v", name, p)
	}
}

// held are vectors that a port may know, by how what was told stands to them.
var held = []struct {
	name       string
	v          api.Vector
	designated int // of a designated port, if it isn't repeated
	other      int // of one that is root, alternate or backup
}{
	{"the same", told, 1, 4},
	{"of a greater root", api.Vector{Root: 51, Cost: 0, Bridge: 0, Port: 0}, 1, 0},
	{"of a lesser root", api.Vector{Root: 49, Cost: 900, Bridge: all, Port: 0xffff}, 3, 4},
	{"at a greater cost", api.Vector{Root: 50, Cost: 501, Bridge: 0, Port: 0}, 1, 0},
	{"at a lesser cost", api.Vector{Root: 50, Cost: 499, Bridge: all, Port: 0xffff}, 3, 4},
	{"of a greater bridge", api.Vector{Root: 50, Cost: 500, Bridge: 0x8001000000000008, Port: 0}, 1, 0},
	{"of a lesser bridge", api.Vector{Root: 50, Cost: 500, Bridge: 0x8001000000000006, Port: 0xffff}, 3, 4},
	{"of a greater port", api.Vector{Root: 50, Cost: 500, Bridge: told.Bridge, Port: 0x8004}, 1, 0},
	{"of a lesser port", api.Vector{Root: 50, Cost: 500, Bridge: told.Bridge, Port: 0x8002}, 3, 4},
	{"of the same sender, better", api.Vector{Root: 49, Cost: 0, Bridge: told.Bridge, Port: told.Port}, 1, 4},
	{"of the same address and number, better", api.Vector{Root: 49, Cost: 0, Bridge: 0x1002000000000007, Port: 0x0003}, 1, 4},
	{"of the same address, better", api.Vector{Root: 49, Cost: 0, Bridge: 0x8001000000000007, Port: 0x8005}, 3, 4},
	{"of the same number, better", api.Vector{Root: 49, Cost: 0, Bridge: 0x8001000000000009, Port: 0x8003}, 3, 4},
	{"zero", api.Vector{}, 3, 4},
	{"the greatest", api.Vector{Root: all, Cost: all, Bridge: all, Port: all}, 1, 0},
}

// P10.1: superior, inferior, not designated and other, each at its edge, whatever Source and the other flags are.
func TestHeard(t *testing.T) {
	for _, x := range held {
		for _, source := range []int{0, 1, 2, 3, 4, -1} {
			p := knowing(source, x.v)
			want := x.designated
			if x.v == told && source == 3 {
				want = 2
			}
			for flags := range 256 {
				name := x.name + ", Source " + strconv.Itoa(source) + ", flags " + strconv.Itoa(flags)
				checkHeard(t, name+" of a configuration", p, config(flags), want)
				switch flags >> 2 & 3 {
				case 0:
					checkHeard(t, name, p, rapid(flags), 0)
				case 1, 2:
					checkHeard(t, name, p, rapid(flags), x.other)
				case 3:
					checkHeard(t, name, p, rapid(flags), want)
				}
			}
		}
	}
}

// P10.1: the same vector with other times is superior, and none that isn't better or of the same sender is for its times.
func TestHeardWithOtherTimes(t *testing.T) {
	for at, times := range []Times{{0, 20, 2, 15}, {2, 20, 2, 15}, {1, 19, 2, 15}, {1, 21, 2, 15}, {1, 20, 1, 15}, {1, 20, 3, 15}, {1, 20, 2, 14}, {1, 20, 2, 16}, {}} {
		for _, x := range held {
			p := knowing(3, x.v)
			p.Times = times
			name := x.name + " with other times " + strconv.Itoa(at)
			checkHeard(t, name, p, rapid(0x0c), x.designated)
			checkHeard(t, name+" of a configuration", p, config(0), x.designated)
			checkHeard(t, name+" of a root port", p, rapid(0x08), x.other)
			checkHeard(t, name+" of an alternate port", p, rapid(0x04), x.other)
			checkHeard(t, name+" of none", p, rapid(0), 0)
		}
	}
}

// P10.1: times are the same in whole ticks, where a Hello of 0 is 1.
func TestRepeatedInWholeTicks(t *testing.T) {
	p := knowing(3, told)
	p.Times.Hello = 1
	for _, hello := range []int{0, 1, 255, 256, 511} {
		b := rapid(0x0c)
		b.Age, b.Max, b.Hello, b.Delay = 511, 20*256+1, hello, 15*256+255
		checkHeard(t, "Hello "+strconv.Itoa(hello), p, b, 2)
	}
	b := rapid(0x0c)
	b.Hello = 512
	checkHeard(t, "Hello 512", p, b, 1)
	// A port that knows a Hello of 0 never hears the same one.
	p.Times.Hello = 0
	b.Hello = 0
	checkHeard(t, "Hello 0 of 0", p, b, 1)
}

// P10.1: the port's own offer and given times are none of what it knows.
func TestHeardHangsOnVectorAndTimes(t *testing.T) {
	p := knowing(3, api.Vector{Root: 49})
	p.Offer, p.Given = told, Times{Age: 1, Max: 20, Hello: 2, Delay: 15}
	checkHeard(t, "an offer of the same", p, rapid(0x0c), 3)
}

// P10.1: 0 of a notice, and of no right BPDU.
func TestHeardOfNothing(t *testing.T) {
	wrong := []bpdu.Bpdu{{}, {Kind: 2}, {Kind: 2, Flags: 0x0c}, {Kind: 2, Vector: told}}
	for _, kind := range []int{math.MinInt, -1, 0, 2, 4, 257, 259, 1<<32 + 1, 1<<32 + 3, math.MaxInt} {
		b := rapid(0x0c)
		b.Kind = kind
		wrong = append(wrong, b)
	}
	for _, b := range []bpdu.Bpdu{rapid(0x0c), rapid(0x08), rapid(0x04), config(0), config(0x0c)} {
		for _, n := range []int{math.MinInt, -1, 65536, 65536 + 256, 1 << 32, math.MaxInt} {
			age, most, hello, delay, flags := b, b, b, b, b
			age.Age, most.Max, hello.Hello, delay.Delay, flags.Flags = n, n, n, n, n
			wrong = append(wrong, age, most, hello, delay, flags)
		}
		for _, n := range []int{256, 256 + 0x0c, 256 + 0x08, -0x100 + 0x0c, 1<<32 + 0x0c} {
			flags := b
			flags.Flags = n
			wrong = append(wrong, flags)
		}
		cost, port := b, b
		cost.Vector.Cost, port.Vector.Port = 1<<32, 65536
		wrong = append(wrong, cost, port)
	}
	for at, b := range wrong {
		for _, x := range held {
			checkHeard(t, x.name+", wrong "+strconv.Itoa(at), knowing(3, x.v), b, 0)
		}
		checkHeard(t, "the same, wrong "+strconv.Itoa(at), Port{Source: 3, Vector: b.Vector, Times: TimesOf(b)}, b, 0)
	}
}

// sendingPort is one of any state; nothing of it hangs on what the test asks.
func sendingPort(r *rand.Rand, role int) Port {
	yes := func() bool { return r.Intn(2) == 1 }
	return Port{Role: role, Selected: r.Intn(5), Tc: r.Intn(3), Proposing: yes(), Proposed: yes(), Learning: yes(), Forwarding: yes(), Agree: yes(), Agreed: yes(), TcAck: yes()}
}

// P10.2: what a port sends is heard as what its role is: as layer 3's role, and as what it is to another port.
func TestSentIsHeardAsItsRole(t *testing.T) {
	wantRole := [...]int{0: 0, 1: 2, 2: 3, 3: 1, 4: 1}
	r := rand.New(rand.NewSource(2))
	for range 2000 {
		role := r.Intn(5)
		p := sendingPort(r, role)
		s, e := bpdu.Print(rapid(Flags(p, false)))
		if e != api.OK {
			t.Fatalf("%#v: %v", p, e)
		}
		b, e := bpdu.Parse(s)
		if e != api.OK || bpdu.Role(b.Flags) != wantRole[role] {
			t.Fatalf("%#v: %#v %v", p, b, e)
		}
		for _, x := range held {
			want := [...]int{0: 0, 1: x.other, 2: x.designated, 3: x.other, 4: x.other}[role]
			checkHeard(t, x.name+", role "+strconv.Itoa(role), knowing(2, x.v), b, want)
		}
	}
}

// P10.2: what is sent as a configuration is of a designated port, whatever its flags are.
func TestSentConfigurationIsOfADesignatedPort(t *testing.T) {
	r := rand.New(rand.NewSource(3))
	for range 500 {
		s, e := bpdu.Print(config(Flags(sendingPort(r, 2), true)))
		if e != api.OK {
			t.Fatal(e)
		}
		b, e := bpdu.Parse(s)
		if e != api.OK {
			t.Fatal(e)
		}
		for _, x := range held {
			checkHeard(t, x.name, knowing(2, x.v), b, x.designated)
		}
	}
}
