package info

import (
	"math"
	"math/rand"
	"reflect"
	"slices"
	"strconv"
	"testing"

	"treebridge/api"
	"treebridge/bpdu"
	"treebridge/roles"
	"treebridge/state"
)

// The numbers are told by hand, not taken from the package.
const (
	all = math.MaxUint64
	own = 0x8001000000000009 // the bridge that is asked
)

func vec(root, cost, bridge, port uint64) api.Vector {
	return api.Vector{Root: root, Cost: cost, Bridge: bridge, Port: port}
}

// usual is a bridge of the times that are usual.
func usual() Bridge {
	return Bridge{Id: own, Times: state.Times{Max: 20, Hello: 2, Delay: 15}}
}

// full has nothing that is zero, and no two numbers that are the same.
func full() state.Port {
	return state.Port{
		Id: 0x8001, Cost: 20000,
		On: true, Admin: true, Oper: true,
		Source: 3,
		Vector: vec(101, 102, 103, 104),
		Times:  state.Times{Age: 111, Max: 112, Hello: 113, Delay: 114},
		Offer:  vec(121, 122, 123, 124),
		Given:  state.Times{Age: 131, Max: 132, Hello: 133, Delay: 134},
		Role:   2, Selected: 4,
		Ready: true, Update: true, Reselect: true,
		Learn: true, Learning: true, Forward: true, Forwarding: true,
		Agree: true, Agreed: true, Proposed: true, Proposing: true, Sync: true, Synced: true, Reroot: true, Disputed: true,
		NewInfo: true, HeardTc: true, HeardTcn: true, HeardAck: true, TcAck: true, TcProp: true, Flush: true,
		SendRstp: true, HeardRstp: true, HeardStp: true, Check: true,
		Fd: 21, Rr: 22, Rb: 23, Tc: 24, Edge: 25, Md: 26, Info: 27, Hello: 28,
		TxCount: 29,
		Change:  31, Migrate: 32,
	}
}

func TestFullIsFull(t *testing.T) {
	v := reflect.ValueOf(full())
	for at := range v.NumField() {
		if v.Field(at).IsZero() {
			t.Error(v.Type().Field(at).Name, "is zero")
		}
	}
}

// bare has all numbers of full, and no bool that is on.
func bare() state.Port {
	p := full()
	v := reflect.ValueOf(&p).Elem()
	for at := range v.NumField() {
		if v.Field(at).Kind() == reflect.Bool {
			v.Field(at).SetBool(false)
		}
	}
	return p
}

// set is a port of which a field named so is on, or off.
func set(p state.Port, name string, on bool) state.Port {
	reflect.ValueOf(&p).Elem().FieldByName(name).SetBool(on)
	return p
}

// mixed is full with each bool on or off at random.
func mixed(r *rand.Rand) state.Port {
	p := full()
	v := reflect.ValueOf(&p).Elem()
	for at := range v.NumField() {
		if v.Field(at).Kind() == reflect.Bool {
			v.Field(at).SetBool(r.Intn(2) == 1)
		}
	}
	return p
}

// ports are some of whatever state.
func ports() []state.Port {
	r := rand.New(rand.NewSource(1))
	l := []state.Port{{}, full(), bare(), state.New(1, 4, false), state.New(2, 5, true)}
	for range 30 {
		l = append(l, mixed(r))
	}
	return l
}

func checkPort(t *testing.T, name string, got, want state.Port) {
	t.Helper()
	g, w := reflect.ValueOf(got), reflect.ValueOf(want)
	for at := range g.NumField() {
		if !g.Field(at).Equal(w.Field(at)) {
			t.Errorf("%s: %s is %v, want %v", name, g.Type().Field(at).Name, g.Field(at), w.Field(at))
		}
	}
}

// P11.1: each time at, below and beyond its bounds, and an Age that isn't 0; any Id.
func TestRight(t *testing.T) {
	far := []int{math.MinInt, -1 << 32, -1<<32 + 10, -256, -20, -2, -1, 256 + 10, 1 << 32, 1<<32 + 1, 1<<32 + 6, 1<<32 + 20, math.MaxInt - 1, math.MaxInt}
	for _, x := range []struct {
		name         string
		time         func(b *Bridge) *int
		right, wrong []int
	}{
		{"Max", func(b *Bridge) *int { return &b.Times.Max }, []int{6, 7, 8, 20, 39, 40}, []int{0, 1, 4, 5, 41, 42, 255}},
		{"Hello", func(b *Bridge) *int { return &b.Times.Hello }, []int{1, 2}, []int{0, 3, 4, 10}},
		{"Delay", func(b *Bridge) *int { return &b.Times.Delay }, []int{4, 5, 15, 29, 30}, []int{0, 1, 2, 3, 31, 32, 40}},
		{"Age", func(b *Bridge) *int { return &b.Times.Age }, []int{0}, []int{1, 2, 6, 20, 256}},
	} {
		ask := func(n int) bool {
			b := usual()
			*x.time(&b) = n
			return Right(b)
		}
		for _, n := range x.right {
			if !ask(n) {
				t.Errorf("%s %d isn't right", x.name, n)
			}
		}
		for _, n := range slices.Concat(x.wrong, far) {
			if ask(n) {
				t.Errorf("%s %d is right", x.name, n)
			}
		}
	}
	for _, id := range []uint64{0, 1, own, 1 << 48, all} {
		if !Right(Bridge{Id: id, Times: usual().Times}) {
			t.Errorf("%x isn't right", id)
		}
		if Right(Bridge{Id: id}) {
			t.Errorf("%x without times is right", id)
		}
	}
	// The bounds hold one by one: none of them hangs on another one.
	if !Right(Bridge{Times: state.Times{Max: 40, Hello: 2, Delay: 4}}) || !Right(Bridge{Times: state.Times{Max: 6, Hello: 1, Delay: 30}}) {
		t.Error("bounds together")
	}
}

// P11.1: one that is off and comes to be on: it is on, and aged, and nothing else.
func TestPowerOn(t *testing.T) {
	for at, p := range ports() {
		for _, source := range []int{0, 1, 2, 3, 7, -1} {
			p.On, p.Source = false, source
			for _, edge := range [][2]bool{{false, false}, {false, true}, {true, false}, {true, true}} {
				p.Admin, p.Oper = edge[0], edge[1]
				want := p
				want.On, want.Source, want.Reselect, want.Ready = true, 1, true, false
				checkPort(t, "on "+strconv.Itoa(at), Power(p, true), want)
			}
		}
	}
}

// P11.1: one that is on and goes off: it is off, and let go, Oper is Admin, and nothing else.
func TestPowerOff(t *testing.T) {
	for at, p := range ports() {
		for _, source := range []int{0, 1, 2, 3, 7, -1} {
			p.On, p.Source = true, source
			for _, edge := range [][2]bool{{false, false}, {false, true}, {true, false}, {true, true}} {
				p.Admin, p.Oper = edge[0], edge[1]
				want := p
				want.On, want.Source, want.Reselect, want.Ready = false, 0, true, false
				want.Proposing, want.Proposed, want.Agree, want.Agreed = false, false, false, false
				want.Info = 0
				want.Oper = edge[0]
				checkPort(t, "off "+strconv.Itoa(at), Power(p, false), want)
			}
		}
	}
}

// P11.1: one that is told what it is already.
func TestPowerAgain(t *testing.T) {
	for at, p := range ports() {
		for _, on := range []bool{false, true} {
			p.On = on
			for _, edge := range [][2]bool{{false, false}, {false, true}, {true, false}, {true, true}} {
				p.Admin, p.Oper = edge[0], edge[1]
				checkPort(t, "again "+strconv.Itoa(at), Power(p, on), p)
			}
		}
	}
}

// told is what the ports below hear.
var told = vec(50, 500, 0x8001000000000007, 0x8003)

// toldTimes are the times that go with it, in ticks.
var toldTimes = state.Times{Age: 1, Max: 20, Hello: 2, Delay: 15}

func rapid(flags int) bpdu.Bpdu {
	return bpdu.Bpdu{Kind: 3, Flags: flags, Vector: told, Age: 256, Max: 20 * 256, Hello: 2 * 256, Delay: 15 * 256}
}

func config(flags int) bpdu.Bpdu {
	b := rapid(flags)
	b.Kind = 1
	return b
}

// rule is what is to come of a BPDU: a bool of the port that is on, or off, when it applies.
type rule struct {
	when bool
	name string
	on   bool
}

func apply(p state.Port, rules []rule) state.Port {
	for _, x := range rules {
		if x.when {
			p = set(p, x.name, x.on)
		}
	}
	return p
}

// wantHeard answers what p is to be behind b, of which k was heard, told by rules of the flags' bits.
func wantHeard(p state.Port, b bpdu.Bpdu, k int) state.Port {
	fast, bit := b.Kind == 3, func(n int) bool { return b.Flags/(1<<n)%2 == 1 }
	another := p.Vector != b.Vector
	want := apply(p, []rule{
		{true, "Oper", false},
		{fast, "HeardRstp", true},
		{!fast, "HeardStp", true},
		{k == 1, "Agreed", false},
		{k == 1, "Proposing", false},
		{k == 1 && another, "Agree", false},
		{k == 1 && another, "Synced", false},
		{k == 1, "Reselect", true},
		{k == 1, "Ready", false},
		{(k == 1 || k == 2) && fast && bit(1), "Proposed", true},
		{(k == 1 || k == 2) && bit(0), "HeardTc", true},
		{(k == 1 || k == 2) && !fast && bit(7), "HeardAck", true},
		{k == 3 && fast && bit(4), "Disputed", true},
		{k == 3 && fast && bit(4), "Agreed", false},
		{k == 4 && bit(6) && p.SendRstp, "Agreed", true},
		{k == 4 && bit(6) && p.SendRstp, "Proposing", false},
		{k == 4 && bit(0), "HeardTc", true},
	})
	if k == 1 || k == 2 {
		want.Info = 6
	}
	if k == 1 {
		want.Source, want.Vector, want.Times = 3, told, toldTimes
	}
	return want
}

// hearers are what ports know that hear what is told, and what it is to them, by the role in its flags.
var hearers = []struct {
	name       string
	source     int
	vector     api.Vector
	times      state.Times
	designated int
	other      int
}{
	{"superior, of another vector", 2, vec(60, 0, own, 1), state.Times{Max: 20, Hello: 2, Delay: 15}, 1, 0},
	{"superior to a heard one", 3, vec(50, 501, 0x8001000000000006, 1), toldTimes, 1, 0},
	{"superior, of the same sender", 3, vec(40, 0, 0x8001000000000007, 0x8003), toldTimes, 1, 4},
	{"superior, of the same vector in other times", 3, told, state.Times{Age: 2, Max: 20, Hello: 2, Delay: 15}, 1, 4},
	{"superior, of the same vector and times, that wasn't heard", 2, told, toldTimes, 1, 4},
	{"superior, of an aged one", 1, vec(50, 500, 0x8001000000000007, 0x8004), toldTimes, 1, 0},
	{"repeated", 3, told, toldTimes, 2, 4},
	{"inferior", 3, vec(40, 0, 0x8001000000000006, 1), toldTimes, 3, 4},
	{"inferior to its own", 2, vec(50, 500, 0x8001000000000005, 0x8003), toldTimes, 3, 4},
}

// P11.1: each kind of what is heard, with all flags, of a rapid BPDU and of a configuration, in ports of any state.
func TestHear(t *testing.T) {
	for at, p := range ports() {
		p.On = true
		for _, x := range hearers {
			p.Source, p.Vector, p.Times = x.source, x.vector, x.times
			for flags := range 256 {
				name := x.name + ", port " + strconv.Itoa(at) + ", flags " + strconv.Itoa(flags)
				k := [4]int{0, x.other, x.other, x.designated}[flags/4%4]
				checkPort(t, name, Hear(p, rapid(flags)), wantHeard(p, rapid(flags), k))
				checkPort(t, name+" of a configuration", Hear(p, config(flags)), wantHeard(p, config(flags), x.designated))
			}
		}
		if t.Failed() {
			return
		}
	}
}

// hearing is a port that is on and has no bool on but those that are named.
func hearing(source int, v api.Vector, on ...string) state.Port {
	p := bare()
	p.On, p.Source, p.Vector, p.Times = true, source, v, toldTimes
	for _, name := range on {
		p = set(p, name, true)
	}
	return p
}

// heardOne is what a port is to be: p, with all that is named on and nothing else, but what do does.
func heardOne(p state.Port, on []string, do func(p *state.Port)) state.Port {
	want := bare()
	want.Source, want.Vector, want.Times = p.Source, p.Vector, p.Times
	for _, name := range append([]string{"On"}, on...) {
		want = set(want, name, true)
	}
	do(&want)
	return want
}

// P11.1: by hand, each bit that is asked, on and off.
func TestHearByHand(t *testing.T) {
	better, worse := vec(60, 0, own, 1), vec(40, 0, own, 1)
	nothing := func(*state.Port) {}
	recorded := func(p *state.Port) { p.Info = 6 }
	taken := func(p *state.Port) { p.Info, p.Source, p.Vector, p.Times = 6, 3, told, toldTimes }
	for _, x := range []struct {
		name string
		p    state.Port
		b    bpdu.Bpdu
		on   []string
		do   func(p *state.Port)
	}{
		{"superior", hearing(1, better), rapid(0x0c), []string{"HeardRstp", "Reselect"}, taken},
		{"superior, with all that goes off", hearing(2, better, "Oper", "Ready", "Agree", "Agreed", "Synced", "Proposing"), rapid(0x0c), []string{"HeardRstp", "Reselect"}, taken},
		{"superior, proposing", hearing(2, better, "Proposing"), rapid(0x0e), []string{"HeardRstp", "Reselect", "Proposed"}, taken},
		{"superior, with a change", hearing(2, better), rapid(0x0d), []string{"HeardRstp", "Reselect", "HeardTc"}, taken},
		{"superior, with all flags", hearing(2, better), rapid(0xff), []string{"HeardRstp", "Reselect", "HeardTc", "Proposed"}, taken},
		{"superior, Proposed and HeardTc stay", hearing(2, better, "Proposed", "HeardTc", "HeardAck", "Disputed"), rapid(0x0c), []string{"HeardRstp", "Reselect", "HeardTc", "Proposed", "HeardAck", "Disputed"}, taken},
		{"superior, a configuration", hearing(1, better, "Oper"), config(0), []string{"HeardStp", "Reselect"}, taken},
		{"superior, a configuration that seems to propose", hearing(1, better), config(0x02), []string{"HeardStp", "Reselect"}, taken},
		{"superior, a configuration with a change", hearing(1, better), config(0x01), []string{"HeardStp", "Reselect", "HeardTc"}, taken},
		{"superior, a configuration that acknowledges", hearing(1, better), config(0x80), []string{"HeardStp", "Reselect", "HeardAck"}, taken},
		{"superior, a configuration with all flags", hearing(1, better), config(0xff), []string{"HeardStp", "Reselect", "HeardAck", "HeardTc"}, taken},
		{"the same vector: agreed is what it was", hearing(2, told, "Agree", "Synced", "Agreed"), rapid(0x0c), []string{"HeardRstp", "Reselect", "Agree", "Synced"}, taken},
		{"repeated", hearing(3, told, "Oper", "Ready"), rapid(0x0c), []string{"HeardRstp", "Ready"}, recorded},
		{"repeated: agreed is what it was", hearing(3, told, "Agree", "Synced", "Agreed", "Proposing"), rapid(0x0c), []string{"HeardRstp", "Agree", "Synced", "Agreed", "Proposing"}, recorded},
		{"repeated, proposing, with a change", hearing(3, told), rapid(0x0f), []string{"HeardRstp", "Proposed", "HeardTc"}, recorded},
		{"repeated, a configuration with all flags", hearing(3, told), config(0xff), []string{"HeardStp", "HeardTc", "HeardAck"}, recorded},
		{"inferior", hearing(3, worse, "Oper", "Agreed"), rapid(0x0c), []string{"HeardRstp", "Agreed"}, nothing},
		{"inferior, all flags but learning", hearing(3, worse, "Agreed"), rapid(0xef), []string{"HeardRstp", "Agreed"}, nothing},
		{"inferior, learning", hearing(3, worse, "Agreed", "Agree", "Proposing"), rapid(0x1c), []string{"HeardRstp", "Disputed", "Agree", "Proposing"}, nothing},
		{"inferior, a configuration", hearing(3, worse, "Oper", "Agreed"), config(0xff), []string{"HeardStp", "Agreed"}, nothing},
		{"a root port's", hearing(2, worse, "SendRstp", "Proposing"), rapid(0x08), []string{"HeardRstp", "SendRstp", "Proposing"}, nothing},
		{"a root port's that agrees", hearing(2, worse, "SendRstp", "Proposing", "Oper"), rapid(0x48), []string{"HeardRstp", "SendRstp", "Agreed"}, nothing},
		{"an alternate port's that agrees", hearing(2, worse, "SendRstp", "Proposing"), rapid(0x44), []string{"HeardRstp", "SendRstp", "Agreed"}, nothing},
		{"a root port's that agrees, to one that speaks the old tongue", hearing(2, worse, "Proposing"), rapid(0x48), []string{"HeardRstp", "Proposing"}, nothing},
		{"a root port's with a change", hearing(2, worse, "SendRstp", "Proposing"), rapid(0x09), []string{"HeardRstp", "SendRstp", "Proposing", "HeardTc"}, nothing},
		{"a root port's with a change, to one that speaks the old tongue", hearing(2, worse), rapid(0x49), []string{"HeardRstp", "HeardTc"}, nothing},
		{"a root port's that agrees, with a change", hearing(2, worse, "SendRstp", "Proposing"), rapid(0x49), []string{"HeardRstp", "SendRstp", "Agreed", "HeardTc"}, nothing},
		{"a root port's that doesn't agree: Agreed stays", hearing(2, worse, "SendRstp", "Agreed"), rapid(0xb8), []string{"HeardRstp", "SendRstp", "Agreed"}, nothing},
		{"other: of no role", hearing(2, worse, "Oper", "SendRstp", "Proposing"), rapid(0xf3), []string{"HeardRstp", "SendRstp", "Proposing"}, nothing},
		{"other: a root port's that is better", hearing(2, better, "Oper", "SendRstp", "Proposing"), rapid(0xfb), []string{"HeardRstp", "SendRstp", "Proposing"}, nothing},
	} {
		checkPort(t, x.name, Hear(x.p, x.b), heardOne(x.p, x.on, x.do))
	}
}

// P11.1: Info, by an Age that is one more below, at and beyond Max, in whole ticks; and 3 times Hello, which is 1 at least.
func TestHearHowLongItHolds(t *testing.T) {
	for _, x := range []struct{ age, most, hello, want int }{
		{0, 20 * 256, 512, 6}, {18 * 256, 20 * 256, 512, 6}, {19 * 256, 20 * 256, 512, 6},
		{20*256 - 1, 20 * 256, 512, 6}, {20 * 256, 20 * 256, 512, 0}, {20 * 256, 20*256 + 255, 512, 0}, {21 * 256, 20 * 256, 512, 0}, {65535, 20 * 256, 512, 0},
		{0, 256, 512, 6}, {255, 256, 512, 6}, {0, 255, 512, 0}, {0, 0, 512, 0}, {256, 0, 512, 0},
		{254 * 256, 65535, 512, 6}, {255 * 256, 65535, 512, 0}, {65535, 65535, 512, 0},
		{0, 20 * 256, 0, 3}, {0, 20 * 256, 1, 3}, {0, 20 * 256, 255, 3}, {0, 20 * 256, 256, 3}, {0, 20 * 256, 511, 3},
		{0, 20 * 256, 513, 6}, {0, 20 * 256, 767, 6}, {0, 20 * 256, 768, 9}, {0, 20 * 256, 65535, 765},
	} {
		for _, kind := range []int{1, 3} {
			b := bpdu.Bpdu{Kind: kind, Flags: 0x0c, Vector: told, Age: x.age, Max: x.most, Hello: x.hello, Delay: 15*256 + 7}
			name := strconv.Itoa(kind) + ": " + strconv.Itoa(x.age) + " of " + strconv.Itoa(x.most) + ", Hello " + strconv.Itoa(x.hello)
			p := Hear(hearing(1, vec(60, 0, own, 1)), b)
			hello := max(1, x.hello/256)
			if p.Info != x.want || p.Source != 3 || p.Vector != told || p.Times != (state.Times{Age: x.age / 256, Max: x.most / 256, Hello: hello, Delay: 15}) {
				t.Errorf("superior, %s: %+v, want Info %d", name, p, x.want)
			}
			p.Info, p.Reselect, p.Ready = 1, false, true
			if q := Hear(p, b); q.Info != x.want || q.Reselect || !q.Ready {
				t.Errorf("repeated, %s: %+v, want Info %d", name, q, x.want)
			}
		}
	}
}

// wrongBpdus are a notice, and such as aren't right.
func wrongBpdus() []bpdu.Bpdu {
	l := []bpdu.Bpdu{{}, {Kind: 2}, {Kind: 2, Flags: 0x0c}, {Kind: 2, Vector: told}}
	for _, kind := range []int{math.MinInt, -1, 0, 2, 4, 257, 259, 1<<32 + 1, 1<<32 + 3, math.MaxInt} {
		b := rapid(0x7f)
		b.Kind = kind
		l = append(l, b)
	}
	for _, b := range []bpdu.Bpdu{rapid(0x7f), rapid(0x7b), config(0xff)} {
		for _, n := range []int{math.MinInt, -1, 65536, 1<<32 + 256, math.MaxInt} {
			age, most, hello, delay, flags := b, b, b, b, b
			age.Age, most.Max, hello.Hello, delay.Delay, flags.Flags = n, n, n, n, n
			l = append(l, age, most, hello, delay, flags)
		}
		cost, port, flags := b, b, b
		cost.Vector.Cost, port.Vector.Port, flags.Flags = 1<<32, 65536, 256
		l = append(l, cost, port, flags)
	}
	return l
}

// P11.1: what a port hears when it is off, a notice, and no right BPDU change nothing.
func TestHearNothing(t *testing.T) {
	for _, p := range ports() {
		for _, x := range hearers {
			p.Source, p.Vector, p.Times = x.source, x.vector, x.times
			p.On = true
			for at, b := range wrongBpdus() {
				checkPort(t, x.name+", wrong "+strconv.Itoa(at), Hear(p, b), p)
			}
			p.On = false
			for flags := range 256 {
				checkPort(t, x.name+", off", Hear(p, rapid(flags)), p)
				checkPort(t, x.name+", off, a configuration", Hear(p, config(flags)), p)
			}
		}
		if t.Failed() {
			return
		}
	}
}

// P11.1: where Source is 3, Info 0, and Update off, and nowhere else: it is aged.
func TestAge(t *testing.T) {
	for at, p := range ports() {
		for _, source := range []int{math.MinInt, -1, 0, 1, 2, 3, 4, 259, 1<<32 + 3} {
			for _, info := range []int{math.MinInt, -1, 0, 1, 2, 6, 1 << 32, math.MaxInt} {
				for _, update := range []bool{false, true} {
					p.Source, p.Info, p.Update = source, info, update
					want := p
					if source == 3 && info == 0 && !update {
						want.Source, want.Reselect, want.Ready = 1, true, false
					}
					checkPort(t, "port "+strconv.Itoa(at)+" of Source "+strconv.Itoa(source)+", Info "+strconv.Itoa(info), Age(p), want)
				}
			}
		}
	}
}

// P11.1: one with Ready and Update on settles, with Offer and Vector the same and not, Agreed and Synced on and off.
func TestSettle(t *testing.T) {
	for at, p := range ports() {
		for _, vector := range []api.Vector{p.Offer, vec(122, 122, 123, 124), vec(121, 123, 123, 124), vec(121, 122, 124, 124), vec(121, 122, 123, 125), {}} {
			for set := range 64 {
				bit := func(n int) bool { return set>>n&1 == 1 }
				p.Vector, p.Ready, p.Update, p.Agreed, p.Synced, p.Proposing, p.Proposed = vector, bit(0), bit(1), bit(2), bit(3), bit(4), bit(5)
				for _, times := range []state.Times{p.Given, toldTimes} {
					p.Times = times
					want := p
					if bit(0) && bit(1) {
						want.Proposing, want.Proposed, want.Update, want.NewInfo = false, false, false, true
						want.Agreed = bit(2) && vector == p.Offer
						want.Synced = bit(3) && bit(2) && vector == p.Offer
						want.Vector, want.Times, want.Source = p.Offer, p.Given, 2
					}
					checkPort(t, "port "+strconv.Itoa(at)+", "+strconv.Itoa(set), Settle(p), want)
				}
			}
		}
		if t.Failed() {
			return
		}
	}
}

// P11.1: what isn't there is behind a Settle: settling again changes nothing.
func TestSettleAgain(t *testing.T) {
	for _, p := range ports() {
		p.Ready, p.Update = true, true
		once := Settle(p)
		checkPort(t, "again", Settle(once), once)
	}
}

// place is what a port is to know for Choose, by what comes of it.
type place struct {
	name     string
	on       bool
	source   int
	vector   api.Vector
	times    state.Times
	selected int
	update   bool
}

// chosen lays ports of these places, of the Ids 1 and so on, and what they are to be behind a Choose with such an offer.
func chosen(base state.Port, l []place, root api.Vector, given state.Times) (before, want []state.Port) {
	for at, x := range l {
		p := base
		p.Id, p.Cost, p.On, p.Source, p.Vector, p.Times, p.Reselect = uint64(at+1), 10, x.on, x.source, x.vector, x.times, at == len(l)-1
		before = append(before, p)
		p.Reselect, p.Ready, p.Selected, p.Update = false, true, x.selected, x.update
		p.Offer, p.Given = vec(root.Root, root.Cost, own, uint64(at+1)), given
		want = append(want, p)
	}
	return before, want
}

// checkChosen asks for an answer, that what was handed in stays, its spare room too, and that none of it is in the answer.
func checkChosen(t *testing.T, name string, b Bridge, l, want []state.Port, ok bool) {
	t.Helper()
	room := append(slices.Clone(l), full(), full())
	was := slices.Clone(room)
	got, done := Choose(b, room[:len(l)])
	if done != ok || len(got) != len(want) {
		t.Errorf("%s: %v of %d ports, want %v of %d", name, done, len(got), ok, len(want))
		return
	}
	for at := range want {
		checkPort(t, name+", "+strconv.Itoa(at), got[at], want[at])
	}
	for at := range got {
		got[at] = state.Port{Id: 77}
	}
	_ = append(got, state.Port{Id: 78})
	if !slices.Equal(room, was) {
		t.Errorf("%s: what was handed in has changed", name)
	}
}

var (
	ownTimes  = state.Times{Max: 20, Hello: 2, Delay: 15}
	otherTime = []state.Times{{Age: 1, Max: 20, Hello: 2, Delay: 15}, {Max: 21, Hello: 2, Delay: 15}, {Max: 20, Hello: 1, Delay: 15}, {Max: 20, Hello: 2, Delay: 16}, {}}
	far       = vec(1, 0, 1, 0x8001) // of a root that is better than own
	behindOwn = vec(own+1, 0, own+1, 1)
)

// P11.1: without a root port: Given is the bridge's own times; each Source; those that are off and know something.
func TestChooseWithoutRootPort(t *testing.T) {
	l := []place{
		{"off", false, 0, api.Vector{}, state.Times{}, 0, false},
		{"off, was aged", false, 1, far, toldTimes, 0, false},
		{"off, was settled", false, 2, far, toldTimes, 0, false},
		{"off, heard a better root", false, 3, far, toldTimes, 0, false},
		{"off, of no Source", false, 9, far, toldTimes, 0, false},
		{"off, of no Cost", false, 3, vec(1, all, 1, 1), toldTimes, 0, false},
		{"on, but let go", true, 0, far, toldTimes, 0, false},
		{"aged", true, 1, far, toldTimes, 2, true},
		{"aged, as it is offered", true, 1, vec(own, 0, own, 9), ownTimes, 2, true},
		{"settled", true, 2, vec(own, 0, own, 10), ownTimes, 2, false},
		{"settled, with another vector", true, 2, vec(own, 0, own, 10), ownTimes, 2, true},
		{"settled, with other times", true, 2, vec(own, 0, own, 12), otherTime[0], 2, true},
		{"heard a worse root", true, 3, behindOwn, toldTimes, 2, true},
		{"heard the same", true, 3, vec(own, 0, own, 14), ownTimes, 4, false},
		{"heard itself", true, 3, vec(own, 0, own, 1), toldTimes, 4, false},
		{"settled, better than what is offered", true, 2, far, ownTimes, 2, true},
	}
	for at, base := range ports() {
		before, want := chosen(base, l, vec(own, 0, own, 0), ownTimes)
		checkChosen(t, "port "+strconv.Itoa(at), usual(), before, want, true)
	}
	for n := range l {
		before, want := chosen(full(), l[:n+1], vec(own, 0, own, 0), ownTimes)
		checkChosen(t, "first "+strconv.Itoa(n+1), usual(), before, want, true)
	}
}

// P11.1: with a root port: Given is its Times, with Age one more, in all ports; each role.
func TestChooseWithRootPort(t *testing.T) {
	given := state.Times{Age: 8, Max: 33, Hello: 1, Delay: 27}
	heard := state.Times{Age: 7, Max: 33, Hello: 1, Delay: 27}
	root := vec(1, 10, 1, 0x8001)
	for at, base := range ports() {
		before, want := chosen(base, []place{
			{"aged", true, 1, api.Vector{}, state.Times{}, 2, true},
			{"root", true, 3, far, heard, 1, false},
			{"settled", true, 2, vec(1, 10, own, 3), given, 2, false},
			{"settled, with the bridge's times", true, 2, vec(1, 10, own, 4), ownTimes, 2, true},
			{"settled, with its own root", true, 2, vec(own, 0, own, 5), given, 2, true},
			{"settled, at another cost", true, 2, vec(1, 11, own, 6), given, 2, true},
			{"settled, of another bridge", true, 2, vec(1, 10, own+1, 7), given, 2, true},
			{"settled, with another port", true, 2, vec(1, 10, own, 7), given, 2, true},
			{"alternate", true, 3, vec(1, 10, own-1, 1), toldTimes, 3, false},
			{"alternate, as good as the root port", true, 3, far, toldTimes, 3, false},
			{"backup", true, 3, vec(1, 10, own, 1), toldTimes, 4, false},
			{"designated", true, 3, vec(1, 11, own-1, 1), toldTimes, 2, true},
			{"off", false, 3, vec(0, 0, 0, 0), toldTimes, 0, false},
			{"on, but let go", true, 0, vec(0, 0, 0, 0), toldTimes, 0, false},
		}, root, given)
		checkChosen(t, "port "+strconv.Itoa(at), usual(), before, want, true)
	}
}

// P11.1: a settled port, each of its numbers another one, by itself.
func TestChooseSettledAnew(t *testing.T) {
	offer := vec(own, 0, own, 1)
	for _, v := range []api.Vector{vec(own-1, 0, own, 1), vec(own+1, 0, own, 1), vec(own, 1, own, 1), vec(own, 0, own+1, 1), vec(own, 0, own, 2), {}} {
		before, want := chosen(bare(), []place{{"settled", true, 2, v, ownTimes, 2, true}}, offer, ownTimes)
		checkChosen(t, "another vector", usual(), before, want, true)
	}
	for _, times := range otherTime {
		before, want := chosen(bare(), []place{{"settled", true, 2, offer, times, 2, true}}, offer, ownTimes)
		checkChosen(t, "other times", usual(), before, want, true)
	}
	before, want := chosen(full(), []place{{"settled", true, 2, offer, ownTimes, 2, false}}, offer, ownTimes)
	checkChosen(t, "the same", usual(), before, want, true)
}

// P11.1: Given is told by the bridge that chooses.
func TestChooseByBridge(t *testing.T) {
	for _, b := range []Bridge{
		{Id: own, Times: state.Times{Max: 6, Hello: 1, Delay: 4}},
		{Id: own, Times: state.Times{Max: 40, Hello: 2, Delay: 30}},
	} {
		before, want := chosen(full(), []place{{"settled", true, 2, vec(own, 0, own, 1), ownTimes, 2, true}, {"settled", true, 2, vec(own, 0, own, 2), b.Times, 2, false}}, vec(own, 0, own, 0), b.Times)
		checkChosen(t, "own times", b, before, want, true)
	}
}

// P11.1: the root port's Times come from what it heard, whatever that was, and wherever it stands.
func TestChooseGivenTimes(t *testing.T) {
	for _, times := range []state.Times{{}, {Age: 19, Max: 20, Hello: 2, Delay: 15}, {Age: 255, Max: 255, Hello: 255, Delay: 255}, {Age: -1, Max: -2, Hello: -3, Delay: -4}, {Age: math.MaxInt}} {
		given := times
		given.Age++
		for n := range 5 {
			l := slices.Repeat([]place{{"aged", true, 1, api.Vector{}, state.Times{}, 2, true}}, 5)
			l[n] = place{"root", true, 3, far, times, 1, false}
			before, want := chosen(full(), l, vec(1, 10, 1, 0x8001), given)
			checkChosen(t, "root port "+strconv.Itoa(n), usual(), before, want, true)
		}
	}
}

// P11.1: one Reselect is enough, wherever it stands, be the port off or on.
func TestChooseIfAnyAsks(t *testing.T) {
	for n := range 4 {
		for _, on := range []bool{false, true} {
			var l []state.Port
			for at := range 4 {
				p := hearing(1, api.Vector{})
				p.Id, p.Reselect = uint64(at+1), at == n
				p.On = at != n || on
				l = append(l, p)
			}
			got, ok := Choose(usual(), l)
			if !ok || slices.ContainsFunc(got, func(p state.Port) bool { return p.Reselect || !p.Ready }) {
				t.Errorf("Reselect of %d: %v, %+v", n, ok, got)
			}
		}
	}
}

// three are ports of which a Choose would make something.
func three() []state.Port {
	l := []state.Port{full(), full(), full()}
	for at := range l {
		l[at].Id = uint64(at + 1)
	}
	return l
}

// P11.1: no Reselect at all, no port, and a bridge that isn't right: the ports as they were, and false.
func TestChooseNot(t *testing.T) {
	checkChosen(t, "none", usual(), nil, nil, false)
	checkChosen(t, "none", usual(), []state.Port{}, nil, false)
	if l, ok := Choose(usual(), nil); ok || len(l) != 0 {
		t.Error(l, ok)
	}
	checkChosen(t, "three", usual(), three(), must(Choose(usual(), three())), true)
	l := three()
	for at := range l {
		l[at].Reselect = false
	}
	checkChosen(t, "no Reselect", usual(), l, l, false)
	for _, times := range []state.Times{
		{}, {Max: 5, Hello: 2, Delay: 15}, {Max: 41, Hello: 2, Delay: 15}, {Max: 20, Hello: 0, Delay: 15}, {Max: 20, Hello: 3, Delay: 15},
		{Max: 20, Hello: 2, Delay: 3}, {Max: 20, Hello: 2, Delay: 31}, {Age: 1, Max: 20, Hello: 2, Delay: 15}, {Age: -1, Max: 20, Hello: 2, Delay: 15},
	} {
		checkChosen(t, "a wrong bridge", Bridge{Id: own, Times: times}, three(), three(), false)
	}
}

func must(l []state.Port, _ bool) []state.Port { return l }

// P11.1: ports that layer 8 doesn't let be: as they were, and false; and such as it lets be at the same edges.
func TestChooseOfWrongPorts(t *testing.T) {
	for name, spoil := range map[string]func(p *state.Port){
		"Id 0":           func(p *state.Port) { p.Id = 0 },
		"Id 65536":       func(p *state.Port) { p.Id = 65536 },
		"a great Id":     func(p *state.Port) { p.Id = 1<<32 + 9 },
		"Id twice":       func(p *state.Port) { p.Id = 3 },
		"Cost":           func(p *state.Port) { p.Cost = 1 << 32 },
		"Source 4":       func(p *state.Port) { p.Source = 4 },
		"Source -1":      func(p *state.Port) { p.Source = -1 },
		"Source far":     func(p *state.Port) { p.Source = 1<<32 + 3 },
		"heard Cost":     func(p *state.Port) { p.Vector.Cost = 1 << 32 },
		"Id 0, off":      func(p *state.Port) { p.Id, p.On = 0, false },
		"Id twice, off":  func(p *state.Port) { p.Id, p.On = 3, false },
		"Cost, off":      func(p *state.Port) { p.Cost, p.On = 1<<32, false },
		"Id 65536, aged": func(p *state.Port) { p.Id, p.Source = 65536, 1 },
	} {
		for at := range 2 {
			l := three()
			spoil(&l[at])
			checkChosen(t, name, usual(), l, l, false)
		}
	}
	for name, change := range map[string]func(p *state.Port){
		"Id 65535":            func(p *state.Port) { p.Id = 65535 },
		"the greatest Cost":   func(p *state.Port) { p.Cost = 1<<32 - 1 },
		"Source 4, off":       func(p *state.Port) { p.Source, p.On = 4, false },
		"heard Cost, off":     func(p *state.Port) { p.Vector.Cost, p.On = 1<<32, false },
		"heard Cost, aged":    func(p *state.Port) { p.Vector.Cost, p.Source = 1<<32, 1 },
		"heard Cost, settled": func(p *state.Port) { p.Vector.Cost, p.Source = 1<<32, 2 },
		"heard Cost, let go":  func(p *state.Port) { p.Vector.Cost, p.Source = 1<<32, 0 },
		"the greatest heard":  func(p *state.Port) { p.Vector.Cost = 1<<32 - 1 },
	} {
		for at := range 3 {
			l := three()
			change(&l[at])
			if _, ok := Choose(usual(), l); !ok {
				t.Error(name, "isn't let be")
			}
		}
	}
	var many []state.Port
	for n := range 17 {
		p := full()
		p.Id = uint64(n + 1)
		many = append(many, p)
	}
	checkChosen(t, "17 ports", usual(), many, many, false)
	if _, ok := Choose(usual(), many[:16]); !ok {
		t.Error("16 ports")
	}
}

// somePorts are ports that know something, of few numbers, so that many of them are the same.
func somePorts(r *rand.Rand) []state.Port {
	var l []state.Port
	some := func() uint64 { return own - 2 + uint64(r.Intn(5)) }
	for at := range r.Intn(17) {
		p := mixed(r)
		p.Id, p.Cost, p.Source = uint64(0x8000+16-at), uint64(r.Intn(3)), r.Intn(4)
		p.Vector = vec(some(), uint64(r.Intn(3)), some(), uint64(0x8000+r.Intn(4)))
		p.Times.Age = r.Intn(3)
		l = append(l, p)
	}
	return l
}

// P11.1: roles and offers are layer 8's, of whatever ports.
func TestChooseAsLayer8Does(t *testing.T) {
	r := rand.New(rand.NewSource(2))
	for range 3000 {
		l := somePorts(r)
		var known []roles.Info
		asked := false
		for _, p := range l {
			asked = asked || p.Reselect
			switch {
			case p.On && p.Source == 3:
				known = append(known, roles.Info{Id: p.Id, Cost: p.Cost, Source: 3, Vector: p.Vector})
			case p.On:
				known = append(known, roles.Info{Id: p.Id, Cost: p.Cost, Source: p.Source})
			default:
				known = append(known, roles.Info{Id: p.Id, Cost: p.Cost})
			}
		}
		res, e := roles.Select(own, known)
		if e != api.OK {
			t.Fatal(e)
		}
		got, ok := Choose(usual(), l)
		if ok != asked || len(got) != len(l) {
			t.Fatalf("%v of %d, want %v of %d", ok, len(got), asked, len(l))
		}
		for at := range got {
			if ok && (got[at].Selected != res.Roles[at] || got[at].Offer != res.Offers[at]) || !ok && got[at] != l[at] {
				t.Fatalf("%+v of %+v", got[at], l[at])
			}
		}
	}
}

// checkBehindChoose asks what P11.2 does of ports that were chosen.
func checkBehindChoose(t *testing.T, b Bridge, l []state.Port) {
	t.Helper()
	rootPorts := 0
	for _, p := range l {
		if p.Reselect || !p.Ready {
			t.Fatalf("Reselect, or not Ready, behind a Choose: %+v", p)
		}
		if p.Selected == 1 {
			rootPorts++
		}
		if p.Selected < 0 || p.Selected > 4 || (p.Selected == 0) != (!p.On || p.Source == 0) {
			t.Fatalf("selected as %d: %+v", p.Selected, p)
		}
	}
	if rootPorts > 1 {
		t.Fatalf("%d root ports: %+v", rootPorts, l)
	}
	if again, ok := Choose(b, l); ok || !slices.Equal(again, l) {
		t.Fatalf("choosing again changes something: %+v", again)
	}
}

// P11.2: of ports of any state.
func TestBehindChoose(t *testing.T) {
	r := rand.New(rand.NewSource(3))
	for range 3000 {
		l := somePorts(r)
		if len(l) == 0 {
			continue
		}
		l[r.Intn(len(l))].Reselect = true
		got, ok := Choose(usual(), l)
		if !ok {
			t.Fatalf("not chosen: %+v", l)
		}
		checkBehindChoose(t, usual(), got)
	}
}

// someBpdu is one that is heard of some root, better or worse.
func someBpdu(r *rand.Rand) bpdu.Bpdu {
	some := func() uint64 { return own - 2 + uint64(r.Intn(4)) }
	return bpdu.Bpdu{
		Kind: 1 + 2*r.Intn(2), Flags: r.Intn(256), Vector: vec(some(), uint64(r.Intn(4)), some(), uint64(0x8000+r.Intn(3))),
		Age: r.Intn(22) * 256, Max: 20 * 256, Hello: r.Intn(3) * 256, Delay: 15 * 256,
	}
}

// P11.2: of a bridge that is told whatever it may be, act by act; what was chosen comes to be, and then nothing asks.
func TestActsAndChoose(t *testing.T) {
	r := rand.New(rand.NewSource(4))
	l := []state.Port{state.New(0x8001, 4, false), state.New(0x8002, 4, true), state.New(0x8003, 1, false), state.New(0x8004, 9, true)}
	for range 20000 {
		at := r.Intn(len(l))
		switch r.Intn(6) {
		case 0:
			l[at] = Power(l[at], r.Intn(4) != 0)
		case 1, 2, 3:
			l[at] = Hear(l[at], someBpdu(r))
		case 4:
			for n := range l {
				l[n] = Age(state.Tick(l[n]))
			}
		case 5:
			asked := slices.ContainsFunc(l, func(p state.Port) bool { return p.Reselect })
			chosen, ok := Choose(usual(), l)
			if ok != asked {
				t.Fatalf("%v: %+v", ok, l)
			}
			l = chosen
			if asked {
				checkBehindChoose(t, usual(), l)
			}
			for n := range l {
				l[n] = Settle(l[n])
			}
		}
	}
}

// P11.1, P11.2: a port that hears a better root is chosen as root port; when that is aged, the bridge is the root again.
func TestABetterRootIsHeard(t *testing.T) {
	l := []state.Port{Power(state.New(1, 4, true), true), Power(state.New(2, 4, false), true), state.New(3, 4, false)}
	run := func(name string, selected ...int) {
		t.Helper()
		chosen, ok := Choose(usual(), l)
		if !ok {
			t.Fatal(name, "isn't chosen")
		}
		l = chosen
		for at := range l {
			l[at] = Settle(l[at])
			if l[at].Selected != selected[at] || l[at].Update {
				t.Errorf("%s: %d is %+v, want role %d", name, at, l[at], selected[at])
			}
		}
	}
	run("nothing heard", 2, 2, 0)
	if l[0].Vector != vec(own, 0, own, 1) || l[0].Times != ownTimes || l[0].Source != 2 || !l[0].NewInfo {
		t.Errorf("settled: %+v", l[0])
	}
	b := rapid(0x0e)
	l[1] = Hear(l[1], b)
	run("a better root", 2, 1, 0)
	if l[0].Vector != vec(50, 504, own, 1) || l[0].Times != (state.Times{Age: 2, Max: 20, Hello: 2, Delay: 15}) || l[1].Vector != told || l[1].Source != 3 {
		t.Errorf("behind it: %+v, %+v", l[0], l[1])
	}
	for range 5 {
		l[1] = Age(state.Tick(l[1]))
	}
	if l[1].Source != 3 {
		t.Errorf("aged too soon: %+v", l[1])
	}
	l[1] = Age(state.Tick(l[1]))
	run("aged", 2, 2, 0)
	l[0] = Power(l[0], false)
	run("off", 0, 2, 0)
}
