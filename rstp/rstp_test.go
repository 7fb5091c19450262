package rstp

import (
	"math"
	"math/rand"
	"reflect"
	"slices"
	"strconv"
	"strings"
	"testing"

	"treebridge/api"
	"treebridge/bpdu"
	"treebridge/change"
	"treebridge/info"
	"treebridge/send"
	"treebridge/state"
	"treebridge/trans"
)

// The numbers are told by hand, not taken from the package.

// usual is a bridge of the times that are usual.
func usual(id uint64) info.Bridge {
	return info.Bridge{Id: id, Times: state.Times{Max: 20, Hello: 2, Delay: 15}}
}

func vec(root, cost, bridge, port uint64) api.Vector {
	return api.Vector{Root: root, Cost: cost, Bridge: bridge, Port: port}
}

// told is a BPDU of the usual times.
func told(kind, flags int, v api.Vector) bpdu.Bpdu {
	return bpdu.Bpdu{Kind: kind, Flags: flags, Vector: v, Max: 20 * 256, Hello: 2 * 256, Delay: 15 * 256}
}

// What is heard, by its flags.
const (
	config     = 1
	rapid      = 3
	designated = 12
	proposes   = 14
	agrees     = 0x48 // of a root port
)

func notice() bpdu.Bpdu { return bpdu.Bpdu{Kind: 2} }

// better is of a bridge that is to be the root, of the bridge 9.
func better() bpdu.Bpdu { return told(rapid, proposes, vec(1, 0, 1, 1)) }

// agreement is of a bridge to which the bridge 9 is the root.
func agreement() bpdu.Bpdu { return told(rapid, agrees, vec(9, 4, 12, 5)) }

// plain has so many ports, of the Ids 1 on, each of the cost 4.
func plain(n int) []Setup {
	var l []Setup
	for at := range n {
		l = append(l, Setup{Id: uint64(at + 1), Cost: 4})
	}
	return l
}

// off is an instance of the bridge 9, of ports that are off.
func off(t *testing.T, l ...Setup) *Instance {
	t.Helper()
	x, e := New(usual(9), l)
	if e != api.OK || x == nil {
		t.Fatal(x, e)
	}
	return x
}

// on is one of ports that are on.
func on(t *testing.T, l ...Setup) *Instance {
	t.Helper()
	x := off(t, l...)
	for at := range l {
		must(t, x.Power(at, true))
	}
	return x
}

// among is an instance of just such ports, as they may be ahead of a run.
func among(l ...state.Port) *Instance {
	return &Instance{bridge: usual(9), ports: slices.Clone(l), toForget: map[uint64]struct{}{}}
}

func must(t *testing.T, e api.Errno) {
	t.Helper()
	if e != api.OK {
		t.Fatal(e)
	}
}

func ticks(x *Instance, n int) {
	for range n {
		x.Tick()
	}
}

// edit changes a port as words tell: "+Learn" is on, "-Learn" is off, "Md=3" is 3, "Given.Age=3" is 3 in Given.
func edit(p state.Port, words string) state.Port {
	v := reflect.ValueOf(&p).Elem()
	for _, word := range strings.Fields(words) {
		if name, n, ok := strings.Cut(word, "="); ok {
			f := v
			for _, part := range strings.Split(name, ".") {
				f = f.FieldByName(part)
			}
			f.SetInt(int64(number(n)))
			continue
		}
		v.FieldByName(word[1:]).SetBool(word[0] == '+')
	}
	return p
}

func number(s string) int {
	n, err := strconv.Atoi(s)
	if err != nil {
		panic(err)
	}
	return n
}

func checkPort(t *testing.T, name string, got, want state.Port) {
	t.Helper()
	g, w := reflect.ValueOf(got), reflect.ValueOf(want)
	for field := range g.NumField() {
		if !g.Field(field).Equal(w.Field(field)) {
			t.Errorf("%s: %s is %v, want %v", name, g.Type().Field(field).Name, g.Field(field), w.Field(field))
		}
	}
}

func checkPorts(t *testing.T, name string, got, want []state.Port) {
	t.Helper()
	if len(got) != len(want) {
		t.Fatalf("%s: %d ports, want %d", name, len(got), len(want))
	}
	for at := range got {
		checkPort(t, name+" at "+strconv.Itoa(at), got[at], want[at])
	}
}

// checkWords asks of a port what words tell.
func checkWords(t *testing.T, name string, p state.Port, words string) {
	t.Helper()
	checkPort(t, name, p, edit(p, words))
}

// rounds tells how many rounds that changed something an act had.
func rounds(x *Instance, act func()) int {
	was := x.Rounds()
	act()
	return x.Rounds() - was
}

func checkRounds(t *testing.T, name string, x *Instance, want int, act func()) {
	t.Helper()
	if got := rounds(x, act); got != want {
		t.Errorf("%s: %d rounds, want %d", name, got, want)
	}
}

func checkForgotten(t *testing.T, name string, x *Instance, want ...uint64) {
	t.Helper()
	if got := x.Forgotten(); !slices.Equal(got, want) {
		t.Errorf("%s: forgotten %v, want %v", name, got, want)
	}
}

// P15.1: what no instance is made of; that is told, and none is made.
func TestNewRefuses(t *testing.T) {
	times := func(max, hello, delay, age int) info.Bridge {
		return info.Bridge{Id: 9, Times: state.Times{Max: max, Hello: hello, Delay: delay, Age: age}}
	}
	one := plain(1)
	last := plain(16)
	last[15].Id = 15
	for at, x := range []struct {
		b info.Bridge
		l []Setup
	}{
		{usual(9), nil}, {usual(9), []Setup{}}, {usual(9), plain(17)}, {usual(9), plain(18)}, {usual(9), plain(256 + 1)}, {usual(9), make([]Setup, 1<<20)},
		{info.Bridge{}, one}, {info.Bridge{Id: 9}, one}, {times(5, 2, 15, 0), one}, {times(41, 2, 15, 0), one}, {times(20, 0, 15, 0), one}, {times(20, 3, 15, 0), one},
		{times(20, 2, 3, 0), one}, {times(20, 2, 31, 0), one}, {times(20, 2, 15, 1), one}, {times(20, 2, 15, -1), one}, {times(-20, -2, -15, 0), one}, {times(math.MaxInt, math.MinInt, 15, 0), one},
		{info.Bridge{}, nil}, {info.Bridge{}, plain(17)},
		{usual(9), []Setup{{}}}, {usual(9), []Setup{{Id: 1}, {Id: 0}}}, {usual(9), []Setup{{Id: 1}, {Id: 1}}}, {usual(9), []Setup{{Id: 3}, {Id: 2}, {Id: 3}}}, {usual(9), []Setup{{Id: 1, Cost: 4}, {Id: 1, Cost: 5, Edge: true}}}, {usual(9), last},
		{usual(9), []Setup{{Id: 1 << 16}}}, {usual(9), []Setup{{Id: 1<<16 + 1}}}, {usual(9), []Setup{{Id: 1}, {Id: 2}, {Id: 1 << 32}}}, {usual(9), []Setup{{Id: math.MaxUint64}}},
		{usual(9), []Setup{{Id: 1, Cost: 1 << 32}}}, {usual(9), []Setup{{Id: 1, Cost: 1<<32 + 4}}}, {usual(9), []Setup{{Id: 1}, {Id: 2, Cost: math.MaxUint64}}},
	} {
		if x, e := New(x.b, x.l); x != nil || e != api.ErrForm {
			t.Errorf("%d: %v, %d", at, x, e)
		}
	}
}

// P15.1: what is let be, at the edges: one port, sixteen, the least and the greatest times, Ids and costs.
func TestNewLetsBe(t *testing.T) {
	for at, x := range []struct {
		b info.Bridge
		l []Setup
	}{
		{usual(9), plain(1)}, {usual(9), plain(2)}, {usual(9), plain(15)}, {usual(9), plain(16)}, {usual(0), plain(1)}, {usual(math.MaxUint64), plain(1)},
		{info.Bridge{Id: 9, Times: state.Times{Max: 6, Hello: 1, Delay: 4}}, plain(2)}, {info.Bridge{Id: 9, Times: state.Times{Max: 40, Hello: 2, Delay: 30}}, plain(2)},
		{usual(9), []Setup{{Id: 1}}}, {usual(9), []Setup{{Id: 1<<16 - 1, Cost: 1<<32 - 1, Edge: true}, {Id: 1, Cost: 0}}}, {usual(9), []Setup{{Id: 0x8002, Cost: 1}, {Id: 0x8001, Cost: 1}}},
	} {
		got, e := New(x.b, x.l)
		if e != api.OK || got == nil {
			t.Errorf("%d: %v, %d", at, got, e)
			continue
		}
		if l := got.Ports(); len(l) != len(x.l) {
			t.Errorf("%d: %d ports", at, len(l))
		}
	}
}

// wantOff is what New makes of a port of the bridge 9, told by hand: it is off, and roles were chosen.
func wantOff(s Setup) state.Port {
	return state.Port{
		Id: s.Id, Cost: s.Cost, Admin: s.Edge, Oper: s.Edge, SendRstp: true,
		Offer: vec(9, 0, 9, s.Id), Given: state.Times{Max: 20, Hello: 2, Delay: 15},
		Ready: true, Synced: true, Fd: 20, Md: 3,
	}
}

// P15.1: a new instance has run: roles are chosen, as Reselect was on, and what follows of that is done.
func TestNewHasRun(t *testing.T) {
	for _, l := range [][]Setup{plain(1), plain(2), plain(16), {{Id: 7, Cost: 1<<32 - 1, Edge: true}, {Id: 2}, {Id: 0xffff, Cost: 3, Edge: true}}} {
		x := off(t, l...)
		var want []state.Port
		for _, s := range l {
			want = append(want, wantOff(s))
		}
		checkPorts(t, "new", x.Ports(), want)
		if x.Rounds() != 1 {
			t.Error("rounds", x.Rounds())
		}
		checkForgotten(t, "new", x)
		if out := x.Send(); len(out) != 0 {
			t.Error("sends", out)
		}
	}
}

// P15.1: an instance is of its own bridge; what was handed in isn't kept.
func TestNewKeepsNothing(t *testing.T) {
	l := plain(2)
	x, _ := New(usual(9), l)
	y, _ := New(info.Bridge{Id: 8, Times: state.Times{Max: 6, Hello: 1, Delay: 4}}, l)
	was := x.Ports()
	l[0] = Setup{Id: 99, Cost: 99, Edge: true}
	must(t, y.Power(0, true))
	checkPorts(t, "another's", x.Ports(), was)
	if x.Rounds() != 1 {
		t.Error("another's rounds", x.Rounds())
	}
	checkWords(t, "of its own times", y.Ports()[1], "Fd=6 Given.Max=6 Given.Hello=1 Given.Delay=4 -On")
	if p := y.Ports()[0]; p.Id != 1 || p.Offer != vec(8, 0, 8, 1) {
		t.Errorf("%+v", p)
	}
}

// wild is a port of which each run changes something, as long as none was.
func wild(id uint64) state.Port {
	p := state.New(id, 4, false)
	p.Reselect, p.Flush, p.Check, p.On = true, true, true, true
	return p
}

// P15.2: places that aren't there, and what is no BPDU: which error, and that nothing changes, nor runs.
func TestRefuses(t *testing.T) {
	wrong := []bpdu.Bpdu{{}, {Kind: 4}, {Kind: -1}, {Kind: 2, Flags: 1}, {Kind: 2, Hello: 512}, told(rapid, 256, vec(1, 0, 1, 1)), told(rapid, -1, vec(1, 0, 1, 1)), told(config, 0, vec(1, 1<<32, 1, 1)), told(rapid, proposes, vec(1, 0, 1, 1<<16)), {Kind: 3, Max: 65536}, {Kind: 1, Age: -1}}
	right := []bpdu.Bpdu{better(), notice(), told(config, 0, vec(1, 0, 1, 1))}
	for n := 1; n <= 16; n += 5 {
		var l []state.Port
		for at := range n {
			l = append(l, wild(uint64(at+1)))
		}
		x := among(l...)
		for _, at := range []int{-1, -2, n, n + 1, 16, 256, 1 << 32, -1 << 32, math.MinInt, math.MaxInt} {
			for _, powered := range []bool{true, false} {
				if e := x.Power(at, powered); e != api.ErrRange {
					t.Errorf("Power(%d, %v) of %d: %d", at, powered, n, e)
				}
			}
			// The place is asked first.
			for _, b := range slices.Concat(right, wrong) {
				if e := x.Hear(at, b); e != api.ErrRange {
					t.Errorf("Hear(%d, %+v) of %d: %d", at, b, n, e)
				}
			}
			if e := x.Check(at); e != api.ErrRange {
				t.Errorf("Check(%d) of %d: %d", at, n, e)
			}
		}
		for at := range n {
			for _, b := range wrong {
				if e := x.Hear(at, b); e != api.ErrForm {
					t.Errorf("Hear(%d, %+v) of %d: %d", at, b, n, e)
				}
			}
		}
		if !slices.Equal(x.Ports(), l) || x.Rounds() != 0 {
			t.Errorf("of %d: changed, %d rounds", n, x.Rounds())
		}
		checkForgotten(t, "refused", x)
	}
}

// P15.2: each place that is there is let be, the first and the last, of ports that are on and off.
func TestLetsBe(t *testing.T) {
	for _, n := range []int{1, 2, 16} {
		for _, at := range []int{0, n - 1} {
			for _, powered := range []bool{false, true} {
				x := off(t, plain(n)...)
				must(t, x.Power(at, powered))
				must(t, x.Check(at))
				for _, b := range []bpdu.Bpdu{better(), notice(), told(config, 0, vec(1, 0, 1, 1)), {Kind: 1}, {Kind: 3}} {
					must(t, x.Hear(at, b))
				}
				for place, p := range x.Ports() {
					if p.On != (powered && place == at) {
						t.Errorf("%d of %d: on is %v", place, n, p.On)
					}
				}
			}
		}
	}
}

// P15.2: whatever is told or asked for, it runs behind it: ports that aren't settled yet are.
func TestRuns(t *testing.T) {
	for name, act := range map[string]func(x *Instance){
		"Power on": func(x *Instance) { x.Power(0, true) }, "Power on again": func(x *Instance) { x.Power(1, true) }, "Power off": func(x *Instance) { x.Power(0, false) },
		"Hear": func(x *Instance) { x.Hear(0, better()) }, "Hear off": func(x *Instance) { x.Hear(2, better()) }, "Hear a notice": func(x *Instance) { x.Hear(0, notice()) }, "Hear a notice off": func(x *Instance) { x.Hear(2, notice()) },
		"Check": func(x *Instance) { x.Check(1) }, "Check off": func(x *Instance) { x.Check(2) }, "Tick": (*Instance).Tick, "Send": func(x *Instance) { x.Send() },
	} {
		x := among(wild(1), wild(2), edit(wild(3), "-On"))
		act(x)
		for at, p := range x.Ports() {
			checkWords(t, name+" at "+strconv.Itoa(at), p, "+Ready -Reselect -Flush")
		}
		if x.Rounds() == 0 {
			t.Error(name, "has no rounds")
		}
		checkForgotten(t, name, x, 1, 2, 3)
	}
	// What only asks doesn't.
	x := among(wild(1))
	x.Ports()
	x.Forgotten()
	if x.Rounds() != 0 || x.ports[0] != wild(1) {
		t.Errorf("asked: %+v", x.ports[0])
	}
}

// P15.2: a port comes to be on: it is the designated one, and proposes; of the others nothing moves.
func TestPowerOn(t *testing.T) {
	x := off(t, plain(3)...)
	checkRounds(t, "on", x, 3, func() { must(t, x.Power(1, true)) })
	want := []state.Port{wantOff(plain(3)[0]), wantOff(plain(3)[1]), wantOff(plain(3)[2])}
	behind := "+On +NewInfo +Proposing Source=2 Role=2 Selected=2 Edge=3"
	want[1] = edit(want[1], behind)
	want[1].Vector, want[1].Times = want[1].Offer, want[1].Given
	checkPorts(t, "on", x.Ports(), want)
	checkRounds(t, "on again", x, 0, func() { must(t, x.Power(1, true)) })
	checkRounds(t, "off still", x, 0, func() { must(t, x.Power(0, false)) })
	checkPorts(t, "twice the same", x.Ports(), want)
	checkRounds(t, "on, too", x, 3, func() { must(t, x.Power(2, true)) })
	want[2] = edit(want[2], behind)
	want[2].Vector, want[2].Times = want[2].Offer, want[2].Given
	checkPorts(t, "on, too", x.Ports(), want)
	checkForgotten(t, "on", x)
}

// P15.2: an edge forwards at once, without a tick.
func TestPowerOnEdge(t *testing.T) {
	x := off(t, Setup{Id: 5, Cost: 4, Edge: true})
	checkRounds(t, "on", x, 4, func() { must(t, x.Power(0, true)) })
	want := edit(wantOff(Setup{Id: 5, Cost: 4, Edge: true}), "+On +NewInfo Source=2 Role=2 Selected=2 Fd=0 +Learn +Learning +Forward +Forwarding +Agreed Change=1")
	want.Vector, want.Times = want.Offer, want.Given
	checkPort(t, "on", x.Ports()[0], want)
}

// P15.2: a port that forwards goes off: it is disabled, and what is known there is forgotten.
func TestPowerOff(t *testing.T) {
	x := on(t, plain(2)...)
	must(t, x.Hear(0, agreement()))
	checkWords(t, "agreed", x.Ports()[0], "+Learn +Learning +Forward +Forwarding Change=2 Role=2")
	other := x.Ports()[1]
	checkForgotten(t, "ahead", x)
	checkRounds(t, "off", x, 2, func() { must(t, x.Power(0, false)) })
	want := edit(wantOff(plain(1)[0]), "+NewInfo +HeardRstp Edge=3")
	want.Vector, want.Times = want.Offer, want.Given
	checkPort(t, "off", x.Ports()[0], want)
	checkPort(t, "the other", x.Ports()[1], other)
	checkRounds(t, "off again", x, 0, func() { must(t, x.Power(0, false)) })
	checkPort(t, "off again", x.Ports()[0], want)
	checkForgotten(t, "off", x, 1)
	// Each is told whether it is an edge anew.
	y := on(t, Setup{Id: 1, Edge: true}, Setup{Id: 2})
	must(t, y.Hear(0, agreement()))
	ticks(y, 3)
	checkWords(t, "heard", y.Ports()[0], "-Oper")
	checkWords(t, "heard nothing", y.Ports()[1], "+Oper")
	must(t, y.Power(0, false))
	must(t, y.Power(1, false))
	checkWords(t, "off, an edge", y.Ports()[0], "+Oper -On")
	checkWords(t, "off, no edge", y.Ports()[1], "-Oper -On")
}

// still is a port of which no run changes anything.
func still(id uint64, role int, words string) state.Port {
	p := state.Port{Id: id, Cost: 4, Source: 2, Vector: vec(9, 0, 9, id), Role: role, Selected: role, Change: 9, Migrate: 9}
	return edit(p, words)
}

// P15.2: what a notice does, by On and Role: HeardStp, Oper and HeardTcn, and nothing more.
func TestNotice(t *testing.T) {
	for _, ahead := range []string{"", "+Oper", "+Admin +Oper +HeardStp", "+HeardTcn", "+HeardRstp +SendRstp", "Info=3 Hello=1 Tc=2", "+Check +Proposing Edge=2 +TcAck +HeardTc +HeardAck"} {
		for _, x := range []struct {
			powered, behind string
			role            int
		}{
			{"-On", "", -1}, {"-On", "", 0}, {"-On", "", 1}, {"-On", "", 2}, {"-On", "", 3}, {"-On", "", 4},
			{"+On", "+HeardStp -Oper", -1}, {"+On", "+HeardStp -Oper", 0}, {"+On", "+HeardStp -Oper", 1}, {"+On", "+HeardStp -Oper +HeardTcn", 2}, {"+On", "+HeardStp -Oper", 3}, {"+On", "+HeardStp -Oper", 4}, {"+On", "+HeardStp -Oper", 258},
		} {
			name := "a notice at " + x.powered + " Role " + strconv.Itoa(x.role) + " " + ahead
			p, other := still(1, x.role, x.powered+" "+ahead), still(2, 2, "+On +Oper")
			in := among(other, p, other)
			checkRounds(t, name, in, 0, func() { must(t, in.Hear(1, notice())) })
			checkPorts(t, name, in.Ports(), []state.Port{other, edit(p, x.behind), other})
		}
	}
}

// P15.2: what is heard is heard as layer 11 has it, by the port that it is for alone, and only if that is on; with each Role.
func TestHearsAsLayer11(t *testing.T) {
	for _, powered := range []string{"-On", "+On"} {
		for role := range 5 {
			for _, b := range []bpdu.Bpdu{
				better(), told(config, 0x81, vec(1, 0, 1, 1)), told(rapid, proposes, vec(9, 3, 12, 1)), told(config, 0, vec(9, 3, 12, 1)),
				told(rapid, 0x1c, vec(9, 3, 12, 1)), agreement(), told(rapid, agrees|1, vec(9, 3, 12, 1)), told(rapid, 0x44, vec(12, 3, 12, 1)), told(rapid, 0, vec(1, 0, 1, 1)),
			} {
				p, other := still(1, role, powered+" +Oper +SendRstp"), still(2, 2, "+On +Oper")
				want := info.Hear(p, b)
				if (p == want) != (powered == "-On") {
					t.Fatalf("%+v isn't heard", b)
				}
				x, y := among(other, p), among(other, want)
				must(t, x.Hear(1, b))
				y.run()
				checkPorts(t, powered+" Role "+strconv.Itoa(role), x.Ports(), y.Ports())
				if x.Rounds() != y.Rounds() {
					t.Errorf("%d rounds, want %d", x.Rounds(), y.Rounds())
				}
			}
		}
	}
	// Told by hand: one that is worse, of a designated port that learns.
	x := among(still(1, 2, "+On +Oper +Agreed +SendRstp"), still(2, 2, "+On +Oper +Agreed"))
	checkRounds(t, "worse", x, 0, func() { must(t, x.Hear(0, told(rapid, 0x1c, vec(9, 3, 12, 1)))) })
	checkPorts(t, "worse", x.Ports(), []state.Port{still(1, 2, "+On +SendRstp +HeardRstp +Disputed"), still(2, 2, "+On +Oper +Agreed")})
}

// P15.2: the same at ports that came to their Role by acts.
func TestHearsWithEachRole(t *testing.T) {
	// Its places: 0 the root port, 1 designated, 2 alternate, 3 backup, 4 off.
	fresh := func() *Instance {
		x := on(t, plain(5)...)
		must(t, x.Power(4, false))
		must(t, x.Hear(0, told(rapid, designated, vec(1, 0, 1, 1))))
		must(t, x.Hear(2, told(rapid, designated, vec(1, 0, 1, 2))))
		must(t, x.Hear(3, told(rapid, designated, vec(1, 4, 9, 2))))
		for at, role := range []int{1, 2, 3, 4, 0} {
			checkWords(t, "place "+strconv.Itoa(at), x.Ports()[at], "Role="+strconv.Itoa(role))
		}
		return x
	}
	// What a notice tells of a change is heeded at a designated port alone; at each one that is on a bridge of the old tongue was heard.
	for at, x := range []struct {
		rapid, stp, tcn string
	}{{"+HeardRstp", "+HeardStp", "-HeardTcn"}, {"-HeardRstp", "+HeardStp", "+HeardTcn"}, {"+HeardRstp", "+HeardStp", "-HeardTcn"}, {"+HeardRstp", "+HeardStp", "-HeardTcn"}, {"-HeardRstp", "-HeardStp", "-HeardTcn"}} {
		in := fresh()
		want := in.Ports()
		checkWords(t, "ahead at "+strconv.Itoa(at), want[at], "-HeardTcn -HeardStp Migrate=0 "+x.rapid)
		must(t, in.Hear(at, notice()))
		// The designated port doesn't learn yet, so it takes no part in changes, and HeardTcn stays.
		want[at] = edit(want[at], x.stp+" "+x.tcn)
		checkPorts(t, "a notice at "+strconv.Itoa(at), in.Ports(), want)
	}
	for at := range 5 {
		for _, b := range []bpdu.Bpdu{told(rapid, proposes, vec(0, 0, 3, 3)), told(config, 0, vec(0, 0, 3, 3))} {
			in := fresh()
			was := in.Ports()
			must(t, in.Hear(at, b))
			l := in.Ports()
			if at == 4 {
				checkPorts(t, "off", l, was)
				continue
			}
			// A root that is better yet: whoever hears it is the root port, and offers it elsewhere.
			for other, p := range l {
				if p.Offer != vec(0, 4, 9, uint64(other+1)) || (p.Role == 1) != (other == at) {
					t.Errorf("heard at %d: %d is %+v", at, other, p)
				}
			}
			checkWords(t, "heard", l[at], map[int]string{rapid: "+HeardRstp Info=6", config: "+HeardStp Info=6"}[b.Kind])
		}
	}
}

// P15.2: Check goes on, at a port that is on, or off, of all alone there; what follows is the tongue's.
func TestCheck(t *testing.T) {
	for _, words := range []string{"+On", "-On", "+On +Check", "-On +Check", "+On +HeardStp +HeardRstp", "-On +Oper"} {
		for role := range 5 {
			other := still(2, role, "+On +SendRstp")
			p := still(1, role, words)
			x := among(other, p, edit(other, "-On"))
			checkRounds(t, words, x, 0, func() { must(t, x.Check(1)) })
			checkPorts(t, words, x.Ports(), []state.Port{other, edit(p, "+Check"), edit(other, "-On")})
		}
	}
	// A port that speaks the old tongue comes to speak the rapid one: it senses, then checks.
	x := on(t, plain(2)...)
	ticks(x, 3)
	must(t, x.Hear(0, told(config, 0, vec(9, 9, 12, 5))))
	checkWords(t, "the old tongue", x.Ports()[0], "Migrate=1 -SendRstp +HeardStp Md=3")
	other := x.Ports()[1]
	// As it proposed for so long, it is an edge with that, and takes no part in changes behind it.
	checkRounds(t, "on", x, 3, func() { must(t, x.Check(0)) })
	checkWords(t, "on", x.Ports()[0], "Migrate=0 +SendRstp -HeardStp -Check Md=3 +Oper Change=1")
	checkPort(t, "the other", x.Ports()[1], other)
	// At one that is off nothing follows till it is on.
	y := off(t, plain(1)...)
	checkRounds(t, "off", y, 0, func() { must(t, y.Check(0)) })
	checkPort(t, "off", y.Ports()[0], edit(wantOff(plain(1)[0]), "+Check"))
	must(t, y.Power(0, true))
	ticks(y, 2)
	checkWords(t, "waits", y.Ports()[0], "+Check Migrate=0 Md=1")
	y.Tick()
	checkWords(t, "checked", y.Ports()[0], "-Check Migrate=0 Md=3")
}

// P15.2: a tick is one of each port, of all timers that run, and TxCount; of others nothing changes.
func TestTick(t *testing.T) {
	run := still(1, 2, "+On Fd=1 Rr=2 Rb=3 Tc=4 Edge=5 Md=6 Info=7 Hello=8 TxCount=9")
	quiet := still(2, 2, "+On")
	some := still(3, 1, "-On Hello=1 TxCount=1")
	x := among(run, quiet, some)
	checkRounds(t, "a tick", x, 0, x.Tick)
	checkPorts(t, "a tick", x.Ports(), []state.Port{edit(run, "Fd=0 Rr=1 Rb=2 Tc=3 Edge=4 Md=5 Info=6 Hello=7 TxCount=8"), quiet, edit(some, "Hello=0 TxCount=0")})
	x.Tick()
	checkPorts(t, "two ticks", x.Ports(), []state.Port{edit(run, "Fd=0 Rr=0 Rb=1 Tc=2 Edge=3 Md=4 Info=5 Hello=6 TxCount=7"), quiet, edit(some, "Hello=0 TxCount=0")})
	ticks(x, 9)
	checkPorts(t, "as many as run", x.Ports(), []state.Port{edit(run, "Fd=0 Rr=0 Rb=0 Tc=0 Edge=0 Md=0 Info=0 Hello=0 TxCount=0"), quiet, edit(some, "Hello=0 TxCount=0")})
	// One that is off has its delay, and its tongue, held.
	y := off(t, plain(2)...)
	was := y.Ports()
	checkRounds(t, "off", y, 1, y.Tick)
	checkPorts(t, "off", y.Ports(), was)
}

// P15.3: nobody has anything to send: nothing is, and nothing changes but the Hello.
func TestSendsNothing(t *testing.T) {
	x := off(t, plain(4)...)
	was := x.Ports()
	for range 3 {
		checkRounds(t, "off", x, 0, func() {
			if out := x.Send(); len(out) != 0 {
				t.Error(out)
			}
		})
	}
	checkPorts(t, "off", x.Ports(), was)
	// A port that has nothing to tell waits for the next Hello all the same.
	y := on(t, plain(2)...)
	must(t, y.Hear(0, better()))
	must(t, y.Hear(1, told(rapid, designated, vec(1, 0, 1, 2))))
	if out := y.Send(); len(out) != 2 {
		t.Error(out)
	}
	ticks(y, 2)
	must(t, y.Hear(0, better()))
	y.Send()
	ticks(y, 2)
	checkWords(t, "ahead", y.Ports()[1], "Role=3 Hello=0 -NewInfo")
	for _, o := range y.Send() {
		if o.Port == 1 {
			t.Error("the alternate port sends", o)
		}
	}
	checkWords(t, "behind", y.Ports()[1], "Role=3 Hello=2 -NewInfo")
}

// wantSent is what a designated port of the bridge 9, the root, sends.
func wantSent(at int, id uint64, flags int) Out {
	return Out{Port: at, Bpdu: told(rapid, flags, vec(9, 0, 9, id))}
}

// P15.3: one port sends, just once, and what that leaves is its own.
func TestSendsOfOne(t *testing.T) {
	x := off(t, plain(3)...)
	must(t, x.Power(1, true))
	was := x.Ports()
	checkRounds(t, "sends", x, 0, func() {
		if out := x.Send(); !slices.Equal(out, []Out{wantSent(1, 2, proposes)}) {
			t.Errorf("%+v", out)
		}
	})
	was[1] = edit(was[1], "-NewInfo Hello=2 TxCount=1")
	checkPorts(t, "sends", x.Ports(), was)
	if out := x.Send(); len(out) != 0 {
		t.Error("again", out)
	}
	checkPorts(t, "again", x.Ports(), was)
	// The next one is behind a Hello time.
	x.Tick()
	if out := x.Send(); len(out) != 0 {
		t.Error("early", out)
	}
	x.Tick()
	if out := x.Send(); !slices.Equal(out, []Out{wantSent(1, 2, proposes)}) {
		t.Error("a Hello time later", out)
	}
	checkWords(t, "a Hello time later", x.Ports()[1], "-NewInfo Hello=2 TxCount=1")
}

// P15.3: what several send is in the order of their places, whatever their Ids are; the place is told.
func TestSendsInOrder(t *testing.T) {
	l := []Setup{{Id: 30, Cost: 4}, {Id: 10, Cost: 4}, {Id: 40, Cost: 4}, {Id: 20, Cost: 4, Edge: true}, {Id: 5, Cost: 4}}
	x := on(t, l...)
	must(t, x.Power(2, false))
	want := []Out{wantSent(0, 30, proposes), wantSent(1, 10, proposes), wantSent(3, 20, 0x3c), wantSent(4, 5, proposes)}
	if out := x.Send(); !slices.Equal(out, want) {
		t.Errorf("%+v", out)
	}
	// Each in its tongue, by its Role.
	y := among(
		still(1, 1, "+On +Ready +NewInfo -SendRstp Hello=1"), still(2, 2, "+On +Ready -SendRstp +TcAck"), still(3, 3, "+On +Ready +NewInfo +SendRstp Hello=1 +Agree"),
		still(4, 2, "+On +NewInfo +SendRstp"), still(5, 4, "+On +Ready +SendRstp Hello=1"), still(6, 2, "+On +Ready +NewInfo +SendRstp TxCount=6"),
	)
	var got []int
	for _, o := range y.Send() {
		got = append(got, o.Port, o.Bpdu.Kind, o.Bpdu.Flags)
	}
	if !slices.Equal(got, []int{0, 2, 0, 1, 1, 128, 2, 3, 0x44}) {
		t.Error(got)
	}
}

// P15.3: it sends first, and runs then: a port whose role isn't chosen yet sends nothing till the next time.
func TestSendsAheadOfRun(t *testing.T) {
	x := among(edit(state.New(1, 4, false), "+On +NewInfo +Reselect Source=1 Role=2 Fd=15"))
	checkRounds(t, "not chosen", x, 2, func() {
		if out := x.Send(); len(out) != 0 {
			t.Error(out)
		}
	})
	checkWords(t, "chosen", x.Ports()[0], "+Ready +NewInfo TxCount=0 Hello=0 +Proposing")
	if out := x.Send(); !slices.Equal(out, []Out{wantSent(0, 1, proposes)}) {
		t.Error(out)
	}
}

// P15.3: a port sends as often as it has something new, not more than six without a tick; what is new then waits.
func TestSendsNoMoreThanSix(t *testing.T) {
	x := on(t, plain(1)...)
	for n := 1; n <= 9; n++ {
		must(t, x.Hear(0, better())) // it agrees anew each time
		checkWords(t, "heard", x.Ports()[0], "+NewInfo +Agree Role=1")
		if out := x.Send(); len(out) != map[bool]int{true: 1, false: 0}[n <= 6] {
			t.Error(n, out)
		}
	}
	checkWords(t, "behind six", x.Ports()[0], "+NewInfo TxCount=6")
	for range 3 {
		x.Tick()
		if out := x.Send(); len(out) != 1 || out[0].Bpdu.Flags&0x40 == 0 {
			t.Error("behind a tick", out)
		}
		must(t, x.Hear(0, better()))
		if out := x.Send(); len(out) != 0 {
			t.Error("and again", out)
		}
	}
}

// P15.3: none, one, several that are to be forgotten: by rising Ids, and none the second time.
func TestForgotten(t *testing.T) {
	l := []Setup{{Id: 30, Cost: 4, Edge: true}, {Id: 10, Cost: 4, Edge: true}, {Id: 40, Cost: 4}, {Id: 20, Cost: 4, Edge: true}, {Id: 65535, Cost: 4, Edge: true}}
	x := on(t, l...)
	checkForgotten(t, "none", x)
	must(t, x.Power(2, false)) // it never learned
	checkForgotten(t, "nothing learned", x)
	must(t, x.Power(3, false))
	checkForgotten(t, "one", x, 20)
	checkForgotten(t, "one, asked again", x)
	// Gathered over several calls.
	must(t, x.Power(0, false))
	must(t, x.Power(3, true))
	must(t, x.Power(4, false))
	x.Send()
	x.Tick()
	must(t, x.Power(1, false))
	must(t, x.Power(3, false))
	checkForgotten(t, "several", x, 10, 20, 30, 65535)
	checkForgotten(t, "several, asked again", x)
	// Once, though in several runs.
	for range 3 {
		must(t, x.Power(1, true))
		must(t, x.Power(1, false))
	}
	checkForgotten(t, "in several runs", x, 10)
	checkForgotten(t, "in several runs, asked again", x)
	must(t, x.Power(1, true))
	must(t, x.Power(1, false))
	checkForgotten(t, "once more", x, 10)
	for _, p := range x.Ports() {
		checkWords(t, "off", p, "-Flush")
	}
}

// P15.3: once, though in several rounds of one run; Flush goes off behind each round, as it would keep ports from going on.
func TestForgottenInRounds(t *testing.T) {
	active := func(id uint64, words string) state.Port {
		return edit(still(id, 2, "+On +SendRstp +Learn +Learning +Forward +Forwarding Change=2"), words)
	}
	// The middle one is told by the first one in the first round, by the last one in the second one.
	x := among(active(3, "+HeardTc"), active(2, ""), active(1, "+HeardTc"))
	checkRounds(t, "told twice", x, 2, x.Tick)
	checkForgotten(t, "told twice", x, 1, 2, 3)
	for at, words := range []string{"+TcAck", "-TcAck", "+TcAck"} {
		checkWords(t, "told twice", x.Ports()[at], "-Flush -TcProp -HeardTc Tc=3 "+words)
	}
	// One that learns goes on in a change in the round behind that in which it was flushed.
	y := among(edit(still(7, 2, "+On +Learn +Learning +Flush"), "Change=0"))
	checkRounds(t, "flushed", y, 2, y.Tick)
	checkWords(t, "flushed", y.Ports()[0], "Change=1 -Flush")
	checkForgotten(t, "flushed", y, 7)
}

// P15.3: what is handed out can be written to, and nothing changes of it.
func TestHandedOut(t *testing.T) {
	x := on(t, Setup{Id: 2, Cost: 4, Edge: true}, Setup{Id: 1, Cost: 4}, Setup{Id: 3, Cost: 4, Edge: true})
	want := x.Ports()
	got := x.Ports()
	for at := range got {
		got[at] = wild(77)
	}
	got = append(got, wild(78))
	if len(got) != 4 {
		t.Fatal(got)
	}
	checkPorts(t, "written to", x.Ports(), want)
	must(t, x.Power(0, false))
	must(t, x.Power(2, false))
	want = x.Ports()
	ids := x.Forgotten()
	ids[0] = 99
	ids = append(ids[:1], 98)
	checkForgotten(t, "written to", x)
	must(t, x.Power(2, true))
	must(t, x.Power(2, false))
	checkForgotten(t, "written to", x, 3)
	out := x.Send()
	kept := slices.Clone(out)
	if len(out) == 0 {
		t.Fatal("nothing sent")
	}
	behind := x.Ports()
	out[0] = Out{Port: 9}
	out = append(out[:0], Out{}, Out{})
	checkPorts(t, "written to", x.Ports(), behind)
	y := on(t, Setup{Id: 2, Cost: 4, Edge: true}, Setup{Id: 1, Cost: 4}, Setup{Id: 3, Cost: 4, Edge: true})
	must(t, y.Power(0, false))
	must(t, y.Power(2, false))
	if again := y.Send(); !slices.Equal(again, kept) {
		t.Error(again)
	}
	if !slices.Equal(ids, []uint64{99, 98}) || len(out) != 2 {
		t.Error("what was handed out changed")
	}
	// What was handed out ahead stays as it was then.
	ahead := want[1]
	x.Tick()
	if want[1] != ahead || x.Ports()[1] == ahead {
		t.Error("what was handed out goes on")
	}
}

// P15.3: rounds that changed something are counted, over all runs, and no others.
func TestRounds(t *testing.T) {
	x := off(t, plain(2)...)
	sum := 1 // of New
	for at, a := range []struct {
		act  func()
		want int
	}{
		{func() { x.Power(0, false) }, 0}, {func() { x.Power(0, true) }, 3}, {func() { x.Power(0, true) }, 0}, {func() { x.Power(1, true) }, 3},
		{func() { x.Power(2, true) }, 0}, {func() { x.Hear(0, bpdu.Bpdu{}) }, 0}, {func() { x.Send() }, 0}, {func() { x.Ports() }, 0}, {func() { x.Forgotten() }, 0}, {func() { x.Rounds() }, 0},
		{x.Tick, 0}, {x.Tick, 0}, {x.Tick, 3}, {x.Tick, 0}, {func() { x.Power(0, false) }, 2}, {x.Tick, 1}, {func() { x.Check(0) }, 0}, {x.Tick, 1},
	} {
		if got := rounds(x, a.act); got != a.want {
			t.Errorf("%d: %d rounds, want %d", at, got, a.want)
		}
		sum += a.want
	}
	if x.Rounds() != sum {
		t.Error(x.Rounds(), sum)
	}
}

// A run ends with a round that changes nothing, and behind 300 that change something: there is no list of ports known that doesn't rest before.
func TestRepeat(t *testing.T) {
	for _, x := range []struct{ rests, done, changes int }{{0, 1, 0}, {1, 2, 1}, {5, 6, 5}, {298, 299, 298}, {299, 300, 299}, {300, 300, 300}, {301, 300, 300}, {1000, 300, 300}} {
		done := 0
		changes := repeat(func() bool {
			done++
			return done <= x.rests
		})
		if done != x.done || changes != x.changes {
			t.Errorf("rests behind %d: %d rounds, %d of them changed something", x.rests, done, changes)
		}
	}
}

// P15.4, and the first example: a bridge that heard nothing is the root; ports that are on are designated and propose, those that are off are disabled, edges forward at once.
func TestHeardNothing(t *testing.T) {
	x := off(t, Setup{Id: 1, Cost: 4}, Setup{Id: 2, Cost: 4, Edge: true}, Setup{Id: 3, Cost: 4, Edge: true}, Setup{Id: 4})
	must(t, x.Power(0, true))
	must(t, x.Power(1, true))
	check := func(name string, words ...string) {
		t.Helper()
		for at, p := range x.Ports() {
			checkWords(t, name+" at "+strconv.Itoa(at), p, words[at])
			if p.Offer != vec(9, 0, 9, uint64(at+1)) || p.Given != usual(9).Times {
				t.Errorf("%s: %d offers %+v, %+v", name, at, p.Offer, p.Given)
			}
		}
	}
	const none, forwards = "-On Role=0 -Learn -Learning -Forward -Forwarding -Proposing", "Role=2 +Learn +Learning +Forward +Forwarding +Oper"
	check("on", "Role=2 +Proposing -Learn -Learning -Forward -Forwarding -Oper", forwards, none, none)
	ticks(x, 2)
	check("two ticks", "Role=2 +Proposing -Learn -Learning -Forward -Forwarding -Oper", forwards, none, none)
	x.Tick()
	check("three ticks", forwards, forwards, none, none)
	ticks(x, 30)
	check("more ticks", forwards, forwards, none, none)
	must(t, x.Power(1, false))
	check("off", forwards, none, none, none)
	checkForgotten(t, "off", x, 2)
}

// The second example: a better root is heard: its port is the root port, and forwards; the other is synced, proposes what was heard, and it agrees.
func TestBetterRoot(t *testing.T) {
	x := on(t, plain(2)...)
	checkRounds(t, "heard", x, 7, func() { must(t, x.Hear(0, better())) })
	l := x.Ports()
	checkWords(t, "the root port", l[0], "Role=1 Selected=1 Source=3 +Agree -Agreed -Proposed -Proposing -Sync +Learn +Learning +Forward +Forwarding +NewInfo -Reroot Rr=15 Fd=0 Info=6 Tc=3 Change=2 +HeardRstp -Oper")
	checkWords(t, "the other", l[1], "Role=2 Selected=2 Source=2 -Agree -Agreed +Proposing -Sync +Synced -Learn -Learning -Forward -Forwarding +NewInfo -Reroot Edge=3 Change=0 +TcProp")
	for at, p := range l {
		if p.Offer != vec(1, 4, 9, uint64(at+1)) || p.Given != (state.Times{Age: 1, Max: 20, Hello: 2, Delay: 15}) {
			t.Errorf("%d offers %+v, %+v", at, p.Offer, p.Given)
		}
	}
	offer := told(rapid, 0x79, vec(1, 4, 9, 1))
	offer.Age = 256
	other := offer
	other.Flags, other.Vector.Port = proposes, 2
	if out := x.Send(); !slices.Equal(out, []Out{{0, offer}, {1, other}}) {
		t.Errorf("%+v", out)
	}
	// One that doesn't propose: the port comes to forward a round earlier.
	y := on(t, plain(1)...)
	checkRounds(t, "not proposed", y, 6, func() { must(t, y.Hear(0, told(rapid, designated, vec(1, 0, 1, 1)))) })
}

// What was heard is too old: the bridge is the root again.
func TestTooOld(t *testing.T) {
	x := on(t, plain(1)...)
	must(t, x.Hear(0, better()))
	for tick := 1; tick <= 5; tick++ {
		checkRounds(t, "tick "+strconv.Itoa(tick), x, 1, x.Tick)
		checkWords(t, "tick "+strconv.Itoa(tick), x.Ports()[0], "Role=1 Source=3 +Forwarding Info="+strconv.Itoa(6-tick))
	}
	checkRounds(t, "too old", x, 1, x.Tick)
	checkWords(t, "too old", x.Ports()[0], "Role=2 Source=2 +Ready +NewInfo +Forwarding")
	if p := x.Ports()[0]; p.Offer != vec(9, 0, 9, 1) || p.Vector != p.Offer || p.Given != usual(9).Times {
		t.Errorf("%+v", p)
	}
	// Heard again in time, it holds; what is older than its Max is too old at once.
	y := on(t, plain(2)...)
	for range 20 {
		must(t, y.Hear(0, better()))
		ticks(y, 5)
		checkWords(t, "in time", y.Ports()[0], "Role=1")
	}
	old := better()
	old.Age = 20 * 256
	must(t, y.Hear(0, old))
	checkWords(t, "too old when heard", y.Ports()[0], "Role=2 Source=2")
	old.Age = 19 * 256
	must(t, y.Hear(0, old))
	checkWords(t, "just not too old", y.Ports()[0], "Role=1 Source=3 Info=6")
}

// Two ports hear the same root: one is the root port, the other one alternate; where it is the same vector, the Id tells which.
func TestSameRoot(t *testing.T) {
	for _, x := range []struct {
		ids, ports [2]uint64
		root       int
	}{{[2]uint64{1, 2}, [2]uint64{1, 2}, 0}, {[2]uint64{1, 2}, [2]uint64{2, 1}, 1}, {[2]uint64{2, 1}, [2]uint64{1, 2}, 0}, {[2]uint64{1, 2}, [2]uint64{1, 1}, 0}, {[2]uint64{2, 1}, [2]uint64{1, 1}, 1}} {
		for _, first := range []int{0, 1} {
			in := on(t, Setup{Id: x.ids[0], Cost: 4}, Setup{Id: x.ids[1], Cost: 4})
			for _, at := range []int{first, 1 - first} {
				must(t, in.Hear(at, told(rapid, proposes, vec(1, 0, 1, x.ports[at]))))
			}
			l := in.Ports()
			checkWords(t, "the root port", l[x.root], "Role=1 +Learning +Forwarding +Agree")
			checkWords(t, "the alternate port", l[1-x.root], "Role=3 -Learning -Forwarding +Agree")
		}
	}
	// What the bridge sent itself comes back: a backup.
	in := on(t, plain(2)...)
	must(t, in.Hear(1, told(rapid, proposes, vec(9, 0, 9, 1))))
	checkWords(t, "designated", in.Ports()[0], "Role=2")
	checkWords(t, "backup", in.Ports()[1], "Role=4 Rb=4 -Learning -Forwarding")
}

// A run in which one port's step makes another's choice anew: the root port is too old, and the alternate one takes its place, which closes.
func TestChosenAnew(t *testing.T) {
	fresh := func() *Instance {
		x := on(t, plain(2)...)
		must(t, x.Hear(0, told(rapid, designated, vec(1, 0, 1, 1))))
		ticks(x, 3)
		must(t, x.Hear(1, told(rapid, designated, vec(1, 2, 3, 1))))
		checkWords(t, "ahead", x.Ports()[0], "Role=1 +Forwarding Info=3")
		checkWords(t, "ahead", x.Ports()[1], "Role=3 -Learning -Forwarding Info=6")
		x.Forgotten()
		return x
	}
	check := func(name string, x *Instance, offered uint64) {
		t.Helper()
		l := x.Ports()
		checkWords(t, name, l[1], "Role=1 +Learning +Forwarding")
		checkWords(t, name, l[0], "Role=2 -Learning -Forwarding +Proposing")
		if l[0].Offer != vec(1, offered, 9, 1) || l[0].Vector != l[0].Offer || l[0].Given.Age != 1 {
			t.Errorf("%s: %+v", name, l[0])
		}
		if l[1].Offer != vec(1, offered, 9, 2) || l[1].Vector != vec(1, 2, 3, 1) {
			t.Errorf("%s: %+v", name, l[1])
		}
	}
	x := fresh()
	ticks(x, 2)
	checkWords(t, "just not too old", x.Ports()[0], "Role=1 +Forwarding Info=1")
	x.Tick()
	check("too old", x, 6)
	// The same where its root port hears that it is farther off now.
	y := fresh()
	must(t, y.Hear(0, told(rapid, designated, vec(1, 9, 1, 1))))
	check("farther off", y, 6)
	// Or goes off.
	z := fresh()
	must(t, z.Power(0, false))
	checkWords(t, "off", z.Ports()[0], "Role=0 -Learning -Forwarding")
	checkWords(t, "off", z.Ports()[1], "Role=1 +Learning +Forwarding")
	checkForgotten(t, "off", z, 1)
}

// The order of a round: each of these would answer otherwise in another one.
func TestOrder(t *testing.T) {
	// To age, to choose, to settle and to move are done in one round, so the role is there behind it; and a step of the port's change is ahead of what the next round moves.
	x := on(t, plain(1)...)
	must(t, x.Hear(0, better()))
	ticks(x, 5)
	checkRounds(t, "age, choose, settle, move", x, 1, x.Tick)
	checkWords(t, "age, choose, settle, move", x.Ports()[0], "Role=2 Source=2")

	// To choose, settle, and move: of a port that comes to be on the first round does all.
	x = off(t, plain(1)...)
	checkRounds(t, "choose, settle, move", x, 3, func() { must(t, x.Power(0, true)) })

	// A pass of moves, then one of changes: it comes to forward, and tells so in that round.
	x = on(t, plain(1)...)
	checkRounds(t, "move, change", x, 2, func() { must(t, x.Hear(0, agreement())) })
	checkWords(t, "move, change", x.Ports()[0], "+Forwarding Change=2 Tc=3")

	// Changes, then what is to be forgotten: it is in the same round.
	checkRounds(t, "change, forget", x, 2, func() { must(t, x.Power(0, false)) })
	checkForgotten(t, "change, forget", x, 1)

	// Changes, then tongues: of a change it tells as long as one does who speaks the rapid tongue.
	x = on(t, plain(1)...)
	ticks(x, 3)
	checkRounds(t, "change, tongue", x, 2, func() { must(t, x.Hear(0, notice())) })
	checkWords(t, "change, tongue", x.Ports()[0], "Tc=3 -SendRstp +TcAck Change=2 -Oper -HeardTcn Md=3 Migrate=1")

	// The tongue, then whether it is an edge: who speaks the old one isn't.
	x = on(t, plain(1)...)
	ticks(x, 3)
	checkWords(t, "tongue, edge", x.Ports()[0], "+Oper +Proposing Edge=0 +SendRstp Migrate=2")
	checkRounds(t, "tongue, edge", x, 1, func() { must(t, x.Hear(0, told(config, 0, vec(9, 9, 12, 5)))) })
	checkWords(t, "tongue, edge", x.Ports()[0], "-Oper -SendRstp Migrate=1 Change=2 +Forwarding")

	// Who comes to be an edge moves as one in the next round alone.
	x = on(t, plain(1)...)
	ticks(x, 2)
	checkRounds(t, "edge, move", x, 3, x.Tick)
	checkWords(t, "edge, move", x.Ports()[0], "+Oper +Forwarding Change=1 Migrate=2")
}

// model is an instance as the chapter has it, of what the layers below answer, told in other words.
type model struct {
	b      info.Bridge
	l      []state.Port
	gone   []uint64
	rounds int
}

func newModel(b info.Bridge, l []Setup) *model {
	m := &model{b: b}
	for _, s := range l {
		m.l = append(m.l, edit(state.New(s.Id, s.Cost, s.Edge), "+Reselect"))
	}
	m.run()
	return m
}

func (m *model) run() {
	for range 300 {
		was := slices.Clone(m.l)
		for at := range m.l {
			m.l[at] = info.Age(m.l[at])
		}
		m.l, _ = info.Choose(m.b, m.l)
		for at := range m.l {
			m.l[at] = info.Settle(m.l[at])
		}
		for at := range m.l {
			m.l, _ = trans.Move(m.b, m.l, at)
			m.l[at] = trans.State(m.l[at])
		}
		for at := range m.l {
			m.l, _ = change.Step(m.b, m.l, at)
		}
		for at := range m.l {
			m.l[at] = send.Tongue(m.l[at])
			m.l[at] = send.Edge(m.l[at])
		}
		for at := range m.l {
			if m.l[at].Flush {
				m.gone = append(m.gone, m.l[at].Id)
				m.l[at].Flush = false
			}
		}
		if slices.Equal(was, m.l) {
			return
		}
		m.rounds++
	}
}

func (m *model) hear(at int, b bpdu.Bpdu) {
	p := m.l[at]
	switch {
	case b.Kind != 2:
		p = info.Hear(p, b)
	case p.On && p.Role == 2:
		p = edit(p, "+HeardStp -Oper +HeardTcn")
	case p.On:
		p = edit(p, "+HeardStp -Oper")
	}
	m.l[at] = p
	m.run()
}

func (m *model) send() []Out {
	var out []Out
	for at := 0; at < len(m.l); {
		p, b, ok := send.Send(m.b, m.l[at])
		m.l[at] = p
		if ok {
			out = append(out, Out{at, b})
		} else {
			at++
		}
	}
	m.run()
	return out
}

func (m *model) forgotten() []uint64 {
	slices.Sort(m.gone)
	ids := slices.Compact(m.gone)
	m.gone = nil
	return ids
}

// mixed is a bridge and ports that are let be, at random, of few Ids so that they meet.
func mixed(r *rand.Rand) (info.Bridge, []Setup) {
	b := info.Bridge{Id: uint64(r.Intn(12)), Times: state.Times{Max: 6 + r.Intn(35), Hello: 1 + r.Intn(2), Delay: 4 + r.Intn(27)}}
	var l []Setup
	ids := r.Perm(20)
	for at := range 1 + r.Intn(6) {
		l = append(l, Setup{Id: uint64(ids[at] + 1), Cost: uint64(r.Intn(4)), Edge: r.Intn(3) == 0})
	}
	return b, l
}

// mixedBpdu is one that is right, at random, mostly of the flags that are told.
func mixedBpdu(r *rand.Rand) bpdu.Bpdu {
	if r.Intn(6) == 0 {
		return notice()
	}
	b := told([]int{config, rapid, rapid}[r.Intn(3)], r.Intn(256), vec(uint64(r.Intn(12)), uint64(r.Intn(6)), uint64(r.Intn(12)), uint64(r.Intn(5))))
	if r.Intn(3) == 0 {
		b.Flags = []int{designated, proposes, agrees, 0x3c, 0x3d, 0x7c}[r.Intn(6)]
	}
	b.Age, b.Max, b.Hello = r.Intn(4)*256, (3+r.Intn(20))*256, r.Intn(3)*256
	return b
}

// checkTree asks what P15.4 promises of the ports.
func checkTree(t *testing.T, l []state.Port, own uint64, heard bool) {
	t.Helper()
	roots := 0
	for _, p := range l {
		if p.Role == 1 {
			roots++
		}
		if !p.On && (p.Role != 0 || p.Learning || p.Forwarding || p.Learn || p.Forward) {
			t.Fatalf("off: %+v", p)
		}
		if p.On && p.Role == 0 || p.Forwarding && !p.Learning || p.Flush || p.Reselect || !p.Ready || p.Update {
			t.Fatalf("not settled: %+v", p)
		}
		if !heard && (p.Offer != vec(own, 0, own, p.Id) || p.On && p.Role != 2) {
			t.Fatalf("heard nothing: %+v", p)
		}
	}
	if roots > 1 {
		t.Fatal(roots, "root ports")
	}
}

// P15.1 to P15.4: acts at random, of instances at random, held against the chapter; those that hear nothing among them.
func TestActs(t *testing.T) {
	r := rand.New(rand.NewSource(15))
	met := map[string]int{}
	for n := range 600 {
		b, l := mixed(r)
		x, e := New(b, l)
		must(t, e)
		m := newModel(b, l)
		deaf, heard := n%5 == 0, false
		for range 60 {
			at := r.Intn(len(l))
			switch act := r.Intn(12); {
			case act < 3:
				powered := r.Intn(4) > 0
				m.l[at] = info.Power(m.l[at], powered)
				m.run()
				must(t, x.Power(at, powered))
			case act < 7 && !deaf:
				heard = true
				told := mixedBpdu(r)
				m.hear(at, told)
				must(t, x.Hear(at, told))
			case act == 7:
				m.l[at].Check = true
				m.run()
				must(t, x.Check(at))
			case act < 10:
				for port := range m.l {
					m.l[port] = state.Tick(m.l[port])
				}
				m.run()
				x.Tick()
			case act == 10:
				want := m.send()
				if got := x.Send(); !slices.Equal(got, want) {
					t.Fatalf("sends %+v, want %+v", got, want)
				}
			default:
				want := m.forgotten()
				met["forgotten"] += len(want)
				checkForgotten(t, "at random", x, want...)
			}
			got := x.Ports()
			if !slices.Equal(got, m.l) || x.Rounds() != m.rounds {
				checkPorts(t, "at random", got, m.l)
				t.Fatalf("%d rounds, want %d", x.Rounds(), m.rounds)
			}
			checkTree(t, got, b.Id, heard)
			for _, p := range got {
				met[strconv.Itoa(p.Role)]++
			}
		}
	}
	for _, name := range []string{"0", "1", "2", "3", "4", "forgotten"} {
		if met[name] < 100 {
			t.Error(name, "met", met[name])
		}
	}
}

// The same is answered to the same acts, whatever other instances did between.
func TestSameAgain(t *testing.T) {
	acts := func(seed int64, between func()) []any {
		r := rand.New(rand.NewSource(seed))
		b, l := mixed(r)
		x, e := New(b, l)
		must(t, e)
		var answers []any
		for range 40 {
			at := r.Intn(len(l))
			must(t, x.Power(at, r.Intn(5) > 0))
			must(t, x.Hear(at, mixedBpdu(r)))
			between()
			x.Tick()
			answers = append(answers, x.Send(), x.Forgotten(), x.Ports(), x.Rounds())
		}
		return answers
	}
	for seed := range int64(5) {
		first := acts(seed, func() {})
		second := acts(seed, func() { acts(seed+100, func() {}) })
		if !reflect.DeepEqual(first, second) {
			t.Error(seed)
		}
	}
}

// end is a place of a bridge among several.
type end struct{ bridge, port int }

// exchange has all that is sent heard at the other end, till nobody sends anything.
func exchange(t *testing.T, l []*Instance, links map[end]end) {
	t.Helper()
	for range 50 {
		quiet := true
		for bridge, x := range l {
			for _, o := range x.Send() {
				if to, ok := links[end{bridge, o.Port}]; ok {
					must(t, l[to.bridge].Hear(to.port, o.Bpdu))
				}
				quiet = false
			}
		}
		if quiet {
			return
		}
	}
	t.Error("no end of sending")
}

func both(pairs ...[2]end) map[end]end {
	links := map[end]end{}
	for _, p := range pairs {
		links[p[0]], links[p[1]] = p[1], p[0]
	}
	return links
}

// Two bridges: they agree at once, without a tick; the better one is the root.
func TestTwoBridges(t *testing.T) {
	var l []*Instance
	for _, id := range []uint64{7, 5} {
		x, e := New(usual(id), plain(2))
		must(t, e)
		must(t, x.Power(0, true))
		l = append(l, x)
	}
	links := both([2]end{{0, 0}, {1, 0}})
	exchange(t, l, links)
	checkWords(t, "the other", l[0].Ports()[0], "Role=1 +Agree +Learning +Forwarding")
	checkWords(t, "the root", l[1].Ports()[0], "Role=2 +Agreed -Proposing +Learning +Forwarding")
	for range 40 {
		ticks(l[0], 1)
		ticks(l[1], 1)
		exchange(t, l, links)
	}
	checkWords(t, "the other, later", l[0].Ports()[0], "Role=1 -Oper +Forwarding")
	checkWords(t, "the root, later", l[1].Ports()[0], "Role=2 -Oper +Forwarding")
}

// A ring of three: just one port doesn't forward, and at no time do all; a link that is cut makes it do so.
func TestRing(t *testing.T) {
	var l []*Instance
	for _, id := range []uint64{3, 1, 2} {
		x, e := New(usual(id), plain(2))
		must(t, e)
		l = append(l, x)
	}
	links := both([2]end{{0, 1}, {1, 0}}, [2]end{{1, 1}, {2, 0}}, [2]end{{2, 1}, {0, 0}})
	closed := func() int {
		n := 0
		for _, x := range l {
			for _, p := range x.Ports() {
				if !p.Forwarding {
					n++
				}
			}
		}
		return n
	}
	for _, x := range l {
		for at := range 2 {
			must(t, x.Power(at, true))
		}
	}
	for tick := range 30 {
		exchange(t, l, links)
		if closed() == 0 {
			t.Fatal("a loop at", tick)
		}
		for _, x := range l {
			x.Tick()
		}
	}
	exchange(t, l, links)
	if closed() != 1 {
		t.Error(closed(), "closed")
	}
	checkWords(t, "the root", l[1].Ports()[0], "Role=2")
	checkWords(t, "the root", l[1].Ports()[1], "Role=2")
	checkWords(t, "the worst", l[0].Ports()[0], "Role=3 -Forwarding")
	must(t, l[0].Power(1, false))
	must(t, l[1].Power(0, false))
	exchange(t, l, links)
	checkWords(t, "the worst, cut off", l[0].Ports()[0], "Role=1 +Forwarding")
	if closed() != 2 {
		t.Error(closed(), "closed")
	}
}
