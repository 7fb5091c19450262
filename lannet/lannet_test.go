package lannet

import (
	"math"
	"reflect"
	"slices"
	"strconv"
	"strings"
	"testing"

	"treebridge/api"
	"treebridge/bridge"
	"treebridge/fdb"
	"treebridge/frame"
	"treebridge/state"
	"treebridge/vlanport"
)

// The numbers are told by hand, not taken from the package.

// The kinds of acts.
const (
	doLink   = 0
	doCut    = 1
	doPower  = 2
	doTick   = 3
	doBring  = 4
	doLose   = 5
	doRepeat = 6
	doHost   = 7
)

const (
	everybody = "\xff\xff\xff\xff\xff\xff"
	hostType  = 0x0800
)

func trunk(native int, allowed ...int) bridge.Port {
	return bridge.Port{Set: vlanport.Port{Trunk: true, Native: native, Allowed: allowed}, Cost: 4}
}

func access(native int) bridge.Port {
	return bridge.Port{Set: vlanport.Port{Native: native}, Cost: 4}
}

func edge(native int) bridge.Port {
	p := access(native)
	p.Edge = true
	return p
}

// box is a set-up of that number: the VLANs 1 and 2, two trunks, and three ports for hosts.
func box(n int) bridge.Config {
	return bridge.Config{
		Mac: "\x02box0" + string([]byte{byte('0' + n)}), Priority: 8, Times: state.Times{Max: 20, Hello: 2, Delay: 15}, Room: 64, Vlans: []int{1, 2},
		Ports: []bridge.Port{
			trunk(1, 1, 2), // 0
			trunk(1, 1, 2), // 1
			edge(2),        // 2
			edge(1),        // 3
			edge(2),        // 4
		},
	}
}

// wrong is a set-up that layer 16 refuses.
func wrong() bridge.Config {
	c := box(9)
	c.Room = 65
	return c
}

func boxes(n int) []bridge.Config {
	var l []bridge.Config
	for at := range n {
		l = append(l, box(at))
	}
	return l
}

func made(t *testing.T, l ...bridge.Config) *Net {
	t.Helper()
	n, e := New(l)
	if n == nil || e != api.OK {
		t.Fatal(n, e)
	}
	return n
}

// do does an act that isn't to be refused.
func do(t *testing.T, n *Net, a Act) []Given {
	t.Helper()
	out, e := n.Do(a)
	if e != api.OK {
		t.Fatalf("%+v: %d", a, e)
	}
	return out
}

// refuse has acts refused, and asks that nothing is given out, and that the network is as another one that wasn't told them.
func refuse(t *testing.T, name string, fresh func(t *testing.T) *Net, want api.Errno, acts ...Act) {
	t.Helper()
	n, twin := fresh(t), fresh(t)
	for _, a := range acts {
		if out, e := n.Do(a); e != want || len(out) != 0 {
			t.Errorf("%s: %+v: %v, %d, want %d", name, a, out, e, want)
		}
		if !reflect.DeepEqual(n, twin) {
			t.Fatalf("%s: %+v: changed", name, a)
		}
	}
}

func link(a, p, b, q int) Act        { return Act{Kind: doLink, A: a, P: p, B: b, Q: q} }
func cut(a, p int) Act               { return Act{Kind: doCut, A: a, P: p} }
func power(a, p int, on bool) Act    { return Act{Kind: doPower, A: a, P: p, On: on} }
func tick(a int) Act                 { return Act{Kind: doTick, A: a} }
func carries(kind, n int) Act        { return Act{Kind: kind, N: n} }
func from(a, p int, s string) Act    { return Act{Kind: doHost, A: a, P: p, Bytes: s} }
func station(n int) string           { return "\x02host" + string([]byte{byte(n)}) }
func given(a, p int, s string) Given { return Given{A: a, P: p, Bytes: s} }

func printed(t *testing.T, f api.Frame) string {
	t.Helper()
	s, e := frame.Print(f)
	if e != api.OK {
		t.Fatal(e)
	}
	return s
}

// letter is a host's frame, told apart from others by its text.
func letter(t *testing.T, src, dst, text string) string {
	t.Helper()
	return printed(t, api.Frame{Dst: dst, Src: src, Type: hostType, Payload: text})
}

func tagged(t *testing.T, src, dst, text string, vlan int) string {
	t.Helper()
	return printed(t, api.Frame{Dst: dst, Src: src, Tagged: true, Vlan: vlan, Type: hostType, Payload: text})
}

// all is a frame to everybody, of station 1.
func all(t *testing.T, text string) string {
	t.Helper()
	return letter(t, station(1), everybody, text)
}

// onWay tells what is on the way, as the ends and the bytes.
func onWay(n *Net) []Given {
	var out []Given
	for _, c := range n.way {
		out = append(out, given(c.to.bridge, c.to.port, c.bytes))
	}
	return out
}

func checkGiven(t *testing.T, name string, got []Given, want ...Given) {
	t.Helper()
	if !slices.Equal(got, want) {
		t.Errorf("%s: %#v, want %#v", name, got, want)
	}
}

// checkWay asks for all that is on the way, in order, and how many were lost.
func checkWay(t *testing.T, name string, n *Net, lost int, want ...Given) {
	t.Helper()
	checkGiven(t, name+": on the way", onWay(n), want...)
	checkNumbers(t, name, n, len(want), lost)
}

func checkNumbers(t *testing.T, name string, n *Net, way, lost int) {
	t.Helper()
	if n.Way() != way || n.Lost() != lost {
		t.Errorf("%s: %d on the way, %d lost, want %d, %d", name, n.Way(), n.Lost(), way, lost)
	}
}

func checkMay(t *testing.T, name string, n *Net, a, p, vlan int, want bool) {
	t.Helper()
	if _, forward := n.Bridge(a).May(p, vlan); forward != want {
		t.Errorf("%s: bridge %d, port %d, VLAN %d: %t", name, a, p, vlan, forward)
	}
}

// on has all ports of all bridges on.
func on(t *testing.T, n *Net) {
	t.Helper()
	for a, p := range n.places {
		for at := range p.ports {
			do(t, n, power(a, at, true))
		}
	}
}

// bringAll brings what is on the way, till nothing is.
func bringAll(t *testing.T, n *Net) []Given {
	t.Helper()
	var out []Given
	for range 5000 {
		if n.Way() == 0 {
			return out
		}
		out = append(out, do(t, n, carries(doBring, 0))...)
	}
	t.Fatal("a frame goes round")
	return nil
}

// settle lets so many ticks go by everywhere, and brings all that is sent.
func settle(t *testing.T, n *Net, ticks int) {
	t.Helper()
	for range ticks {
		for a := range n.places {
			do(t, n, tick(a))
			bringAll(t, n)
		}
	}
}

// linked is so many boxes of those links, on, and settled.
func linked(t *testing.T, boxesOf int, links ...Act) *Net {
	t.Helper()
	n := made(t, boxes(boxesOf)...)
	for _, a := range links {
		do(t, n, a)
	}
	on(t, n)
	settle(t, n, 40)
	return n
}

// two are linked once: 0.0 with 1.0.
func two(t *testing.T) *Net {
	t.Helper()
	return linked(t, 2, link(0, 0, 1, 0))
}

// row is three in a row: 0.1 with 1.0, 1.1 with 2.0.
func row(t *testing.T) *Net {
	t.Helper()
	return linked(t, 3, link(0, 1, 1, 0), link(1, 1, 2, 0))
}

// inVlan2 is a frame as it goes over a trunk.
func inVlan2(t *testing.T, text string) string {
	t.Helper()
	return tagged(t, station(1), everybody, text, 2)
}

// P17.1: which lists make no network; how many is told ahead of what is in them.
func TestNewRefuses(t *testing.T) {
	with := func(n, at int) []bridge.Config {
		l := boxes(n)
		l[at] = wrong()
		return l
	}
	for i, x := range []struct {
		l    []bridge.Config
		want api.Errno
	}{
		{nil, api.ErrRange}, {[]bridge.Config{}, api.ErrRange}, {boxes(9), api.ErrRange}, {boxes(10), api.ErrRange}, {make([]bridge.Config, 1<<16), api.ErrRange},
		{with(9, 0), api.ErrRange}, {with(9, 8), api.ErrRange}, {with(9, 4), api.ErrRange}, {make([]bridge.Config, 9), api.ErrRange},
		{make([]bridge.Config, 1), api.ErrForm}, {make([]bridge.Config, 8), api.ErrForm},
		{with(1, 0), api.ErrForm}, {with(2, 0), api.ErrForm}, {with(2, 1), api.ErrForm}, {with(8, 0), api.ErrForm}, {with(8, 7), api.ErrForm}, {with(8, 3), api.ErrForm},
	} {
		if n, e := New(x.l); n != nil || e != x.want {
			t.Errorf("%d: %v, %d, want %d", i, n, e, x.want)
		}
	}
}

// P17.1: a new network has all its bridges, in order, no links, nothing on the way, and lost nothing.
func TestNew(t *testing.T) {
	for _, count := range []int{1, 2, 7, 8} {
		n := made(t, boxes(count)...)
		checkNumbers(t, "new", n, 0, 0)
		for a := range count {
			b, e := bridge.New(box(a))
			if e != api.OK || !reflect.DeepEqual(n.Bridge(a), b) {
				t.Errorf("of %d: bridge %d: %v, %d", count, a, n.Bridge(a), e)
			}
			for p := range 5 {
				if out, e := n.Do(cut(a, p)); e != api.ErrNone || len(out) != 0 {
					t.Error("linked", a, p, out, e)
				}
				if out := do(t, n, from(a, p, all(t, ""))); len(out) != 0 {
					t.Error("off, but lets out", a, p, out)
				}
			}
		}
		for a := range count {
			if out := do(t, n, tick(a)); len(out) != 0 {
				t.Error("off, but sends", out)
			}
		}
		checkNumbers(t, "off", n, 0, 0)
	}
	// Set-ups may be the same.
	if n := made(t, box(0), box(0)); n.Bridge(0) == n.Bridge(1) {
		t.Error("one bridge at two places")
	}
}

// Rule 3: what was handed to New isn't changed, and can be written to behind it.
func TestNewKeepsNothing(t *testing.T) {
	l := append(make([]bridge.Config, 0, 4), boxes(2)...)
	n := made(t, l...)
	if !reflect.DeepEqual(l, boxes(2)) || !reflect.DeepEqual(l[:4][2:], make([]bridge.Config, 2)) {
		t.Errorf("changed: %+v", l[:4])
	}
	l = boxes(2)
	n, e := New(l)
	if e != api.OK {
		t.Fatal(e)
	}
	for at := range l {
		l[at].Vlans[0], l[at].Vlans[1] = 7, 8
		for p := range l[at].Ports {
			for i := range l[at].Ports[p].Set.Allowed {
				l[at].Ports[p].Set.Allowed[i] = 4000 + i
			}
			l[at].Ports[p] = access(4094)
		}
		l[at].Ports = nil
		l[at] = wrong()
	}
	if !reflect.DeepEqual(n, made(t, boxes(2)...)) {
		t.Error("written to")
	}
	do(t, n, link(0, 0, 1, 0))
	on(t, n)
	settle(t, n, 40)
	if !reflect.DeepEqual(n, two(t)) {
		t.Error("another network came of it")
	}
	// Another network of the same set-ups is its own.
	m := made(t, boxes(2)...)
	on(t, m)
	settle(t, m, 3)
	if !reflect.DeepEqual(n, two(t)) {
		t.Error("changed by another network")
	}
}

// strange are numbers that no place and no port has, of two bridges of five ports.
var strange = []int{-1, 5, 6, 16, math.MinInt, math.MaxInt, 1 << 32}

// P17.2: Kind 0 of ends that aren't there, or aren't unlike; that is told ahead of ends that are linked.
func TestLinkRefuses(t *testing.T) {
	acts := []Act{link(2, 0, 0, 1), link(0, 1, 2, 0), link(2, 0, 3, 0), link(-1, 0, 0, 1), link(0, 1, -1, 0)}
	for _, wrong := range strange {
		acts = append(acts, link(wrong, 1, 1, 1), link(1, 1, wrong, 1), link(1, wrong, 0, 1), link(0, 1, 1, wrong), link(wrong, wrong, wrong, wrong), link(0, wrong, 0, wrong))
		acts = append(acts, link(wrong, 0, 0, 0), link(0, 0, wrong, 0), link(0, wrong, 0, 0), link(0, 0, 1, wrong), link(1, 0, 0, wrong))
	}
	for p := range 5 {
		acts = append(acts, link(0, p, 0, p), link(1, p, 1, p))
	}
	refuse(t, "no two ends", two, api.ErrRange, acts...)
	refuse(t, "linked", two, api.ErrExists, link(0, 0, 1, 0), link(1, 0, 0, 0), link(0, 0, 1, 1), link(0, 1, 1, 0), link(1, 0, 0, 1), link(1, 1, 0, 0), link(0, 0, 0, 1), link(1, 4, 1, 0))
	refuse(t, "linked elsewhere", func(t *testing.T) *Net { return linked(t, 3, link(0, 0, 1, 0), link(1, 1, 2, 0)) }, api.ErrExists, link(0, 0, 1, 1), link(1, 1, 0, 0), link(2, 0, 1, 0), link(0, 0, 2, 0), link(2, 0, 2, 1))
	// The bridges may have different counts of ports.
	few := box(0)
	few.Ports = few.Ports[:2]
	refuse(t, "of two ports", func(t *testing.T) *Net { return made(t, few, box(1)) }, api.ErrRange, link(0, 2, 1, 0), link(1, 0, 0, 2), link(0, 4, 1, 4))
	n := made(t, few, box(1))
	do(t, n, link(0, 1, 1, 4))
	n = made(t, box(1), few)
	do(t, n, link(0, 4, 1, 1))
}

// P17.2: a link goes both ways, between bridges and within one; each end but its two stays free.
func TestLink(t *testing.T) {
	n := two(t)
	checkGiven(t, "there", do(t, n, from(0, 2, all(t, "there"))), given(0, 1, inVlan2(t, "there")), given(0, 4, all(t, "there")))
	checkGiven(t, "back", do(t, n, from(1, 2, all(t, "back"))), given(1, 1, inVlan2(t, "back")), given(1, 4, all(t, "back")))
	checkWay(t, "both ways", n, 0, given(1, 0, inVlan2(t, "there")), given(0, 0, inVlan2(t, "back")))
	for _, x := range []end{{0, 1}, {1, 1}, {0, 2}, {1, 4}} {
		if _, e := n.Do(cut(x.bridge, x.port)); e != api.ErrNone {
			t.Error(x, "is linked", e)
		}
		do(t, n, from(x.bridge, x.port, "no frame"))
	}
	// A link within a bridge: what it sends comes back to it, at the other end.
	for _, a := range []Act{link(0, 0, 0, 1), link(0, 1, 0, 0)} {
		n = made(t, box(0))
		do(t, n, a)
		do(t, n, power(0, 0, true))
		checkGiven(t, "within", do(t, n, tick(0)))
		way := onWay(n)
		if len(way) != 3 {
			t.Errorf("%d on the way", len(way))
		}
		for _, w := range way {
			if w.A != 0 || w.P != 1 {
				t.Error("to", w.A, w.P)
			}
		}
		refuse(t, "within", func(t *testing.T) *Net { return linked(t, 1, a) }, api.ErrExists, from(0, 0, "x"), from(0, 1, "x"), link(0, 0, 0, 2), link(0, 2, 0, 1))
	}
	n = linked(t, 1, link(0, 0, 0, 1))
	for vlan := 1; vlan <= 2; vlan++ {
		checkMay(t, "within", n, 0, 0, vlan, true)
		checkMay(t, "a loop", n, 0, 1, vlan, false)
	}
	// Many links, of all ports but one.
	n = made(t, boxes(3)...)
	for i, a := range []Act{link(0, 0, 1, 0), link(2, 4, 0, 4), link(1, 3, 1, 2), link(2, 0, 2, 1), link(0, 1, 2, 2), link(1, 4, 0, 2), link(0, 3, 2, 3)} {
		do(t, n, a)
		if len(n.links) != 2*(i+1) {
			t.Error(i, "links", n.links)
		}
	}
}

// P17.2: Kind 1 of no end, and of one that isn't linked.
func TestCutRefuses(t *testing.T) {
	busy := func(t *testing.T) *Net {
		n := two(t)
		do(t, n, from(0, 2, all(t, "one")))
		do(t, n, from(1, 2, all(t, "two")))
		return n
	}
	var acts []Act
	for _, wrong := range strange {
		acts = append(acts, cut(wrong, 0), cut(0, wrong), cut(1, wrong), cut(wrong, wrong))
	}
	refuse(t, "no end", busy, api.ErrRange, append(acts, cut(2, 0))...)
	refuse(t, "not linked", busy, api.ErrNone, cut(0, 1), cut(0, 4), cut(1, 1), cut(1, 4), Act{Kind: doCut, A: 0, P: 1, B: 0, Q: 0}, Act{Kind: doCut, A: 0, P: 1, B: 1, Q: 0})
	for _, x := range []end{{0, 0}, {1, 0}} {
		n := two(t)
		do(t, n, cut(x.bridge, x.port))
		for a := range 2 {
			if out, e := n.Do(cut(a, 0)); e != api.ErrNone || len(out) != 0 {
				t.Error("cut twice", out, e)
			}
		}
	}
}

// P17.2: a cut link is gone at both ends, and what is on the way to them; all else stays, in order.
func TestCut(t *testing.T) {
	for _, x := range []end{{0, 1}, {1, 0}} {
		n := row(t)
		do(t, n, from(1, 2, all(t, "a"))) // to both sides
		do(t, n, from(0, 2, all(t, "b")))
		do(t, n, from(2, 2, all(t, "c")))
		do(t, n, from(0, 2, all(t, "d")))
		do(t, n, from(1, 2, all(t, "e"))) // to both sides
		do(t, n, from(2, 2, all(t, "f")))
		checkWay(t, "before", n, 0, given(0, 1, inVlan2(t, "a")), given(2, 0, inVlan2(t, "a")), given(1, 0, inVlan2(t, "b")), given(1, 1, inVlan2(t, "c")),
			given(1, 0, inVlan2(t, "d")), given(0, 1, inVlan2(t, "e")), given(2, 0, inVlan2(t, "e")), given(1, 1, inVlan2(t, "f")))
		// B, Q and N aren't looked at.
		checkGiven(t, "cut", do(t, n, Act{Kind: doCut, A: x.bridge, P: x.port, B: 2, Q: 0, N: 1}))
		checkWay(t, "cut", n, 4, given(2, 0, inVlan2(t, "a")), given(1, 1, inVlan2(t, "c")), given(2, 0, inVlan2(t, "e")), given(1, 1, inVlan2(t, "f")))
		checkGiven(t, "at both ends", do(t, n, from(0, 2, all(t, "g"))), given(0, 0, inVlan2(t, "g")), given(0, 1, inVlan2(t, "g")), given(0, 4, all(t, "g")))
		checkGiven(t, "at both ends", do(t, n, from(1, 2, all(t, "h"))), given(1, 0, inVlan2(t, "h")), given(1, 4, all(t, "h")))
		checkNumbers(t, "the other link", n, 5, 4)
		do(t, n, from(0, 1, "a host may be here"))
		do(t, n, from(1, 0, "and here"))
	}
}

// P17.2: both ends of a cut link can be linked again, to each other or to others.
func TestLinkAgain(t *testing.T) {
	n := two(t)
	do(t, n, from(0, 2, all(t, "gone")))
	do(t, n, cut(1, 0))
	do(t, n, link(1, 0, 0, 0))
	checkWay(t, "again", n, 1)
	do(t, n, from(0, 2, all(t, "there")))
	checkWay(t, "again", n, 1, given(1, 0, inVlan2(t, "there")))
	do(t, n, cut(0, 0))
	do(t, n, link(0, 0, 0, 1))
	do(t, n, link(1, 0, 1, 1))
	do(t, n, from(0, 2, all(t, "within")))
	// Both ends of it forward, as nothing was sent over it so far.
	checkWay(t, "within", n, 2, given(0, 1, inVlan2(t, "within")), given(0, 0, inVlan2(t, "within")))
	if len(n.links) != 4 {
		t.Error("links", n.links)
	}
}

// P17.2: Kind 2 of no end, and what it does; linked or not, nothing that is on the way is lost.
func TestPower(t *testing.T) {
	var acts []Act
	for _, on := range []bool{false, true} {
		for _, wrong := range strange {
			acts = append(acts, power(wrong, 0, on), power(0, wrong, on), power(1, wrong, on), power(wrong, wrong, on))
		}
		acts = append(acts, power(2, 0, on))
	}
	refuse(t, "no end", two, api.ErrRange, acts...)
	for _, x := range []end{{0, 0}, {1, 0}, {0, 2}, {1, 4}, {0, 1}} {
		n, twin := two(t), two(t)
		do(t, n, from(0, 2, all(t, "there")))
		checkMay(t, "on", n, x.bridge, x.port, 2, true)
		checkGiven(t, "off", do(t, n, Act{Kind: doPower, A: x.bridge, P: x.port, B: 1, Q: 1, N: 3}))
		checkMay(t, "off", n, x.bridge, x.port, 2, false)
		checkWay(t, "off", n, 0, given(1, 0, inVlan2(t, "there")))
		if x != (end{1, 4}) {
			checkMay(t, "another one", n, 1, 4, 2, true)
		}
		checkGiven(t, "on again", do(t, n, power(x.bridge, x.port, true)))
		if e := twin.Bridge(x.bridge).Power(x.port, false); e != api.OK {
			t.Fatal(e)
		}
		twin.Bridge(x.bridge).Power(x.port, true)
		for a := range 2 {
			for p := range 5 {
				_, want := twin.Bridge(a).May(p, 2)
				checkMay(t, "on again", n, a, p, 2, want)
			}
		}
	}
	// A frame that comes to a port that is off is taken in, and comes to nobody.
	n := two(t)
	do(t, n, from(0, 2, all(t, "there")))
	do(t, n, power(1, 0, false))
	checkGiven(t, "to a port that is off", do(t, n, carries(doBring, 0)))
	checkWay(t, "to a port that is off", n, 0)
	// Links are there whether or not their ends are on.
	if _, e := n.Do(link(1, 0, 0, 1)); e != api.ErrExists {
		t.Error(e)
	}
}

// sends tells what a bridge of box 0 alone, that is on, sends at its n-th tick.
func sends(t *testing.T, n int) []bridge.Sent {
	t.Helper()
	b, e := bridge.New(box(0))
	if e != api.OK {
		t.Fatal(e)
	}
	for p := range 5 {
		b.Power(p, true)
	}
	for range n - 1 {
		b.Tick()
		b.Send()
	}
	b.Tick()
	return b.Send()
}

// P17.2: Kind 3 of no bridge.
func TestTickRefuses(t *testing.T) {
	var acts []Act
	for _, wrong := range append([]int{2}, strange...) {
		acts = append(acts, tick(wrong), Act{Kind: doTick, A: wrong, P: 0, B: 1, Q: 0, N: 0, On: true, Bytes: "x"})
	}
	refuse(t, "no bridge", two, api.ErrRange, acts...)
}

// P17.2: Kind 3: what is sent at linked ports is on the way, in order, behind all others; at others it is given out, in order.
func TestTick(t *testing.T) {
	for _, a := range []Act{tick(0), {Kind: doTick, P: -1, B: 7, Q: math.MaxInt, N: math.MinInt, Bytes: "x"}, {Kind: doTick, P: 5, On: true}} {
		n := made(t, boxes(2)...)
		do(t, n, link(0, 1, 1, 3))
		do(t, n, link(0, 3, 1, 1))
		on(t, n)
		var out, way []Given
		sent := sends(t, 1)
		for _, s := range sent {
			switch s.Port {
			case 1:
				way = append(way, given(1, 3, s.Bytes))
			case 3:
				way = append(way, given(1, 1, s.Bytes))
			default:
				out = append(out, given(0, s.Port, s.Bytes))
			}
		}
		// Of VLAN 1 two forms at the trunks, and one at port 3; of VLAN 2 one at each of the trunks, and of ports 2 and 4.
		if len(out) != 5 || len(way) != 4 || way[0].P != 3 || way[1].P != 3 || way[2].P != 1 || way[3].P != 3 {
			t.Fatal(len(out), way)
		}
		checkGiven(t, "given out", do(t, n, a), out...)
		checkWay(t, "sent", n, 0, way...)
		// Behind all others: of the other bridge, and of a later tick.
		do(t, n, tick(1))
		both := onWay(n)
		if len(both) != 8 || !slices.Equal(both[:4], way) || both[4].A != 0 {
			t.Error("of both", both)
		}
		do(t, n, a)
		do(t, n, a)
		for _, late := range []int{2, 3} {
			for _, s := range sends(t, late) {
				switch s.Port {
				case 1:
					both = append(both, given(1, 3, s.Bytes))
				case 3:
					both = append(both, given(1, 1, s.Bytes))
				}
			}
		}
		checkWay(t, "later", n, 0, both...)
	}
}

// P17.2: a tick is of one bridge alone, and is a second there.
func TestTickOfOne(t *testing.T) {
	n := made(t, boxes(2)...)
	on(t, n)
	for range 3 {
		do(t, n, tick(1))
	}
	for p := range 3 {
		checkMay(t, "three seconds", n, 1, p, 2, true)
		checkMay(t, "none", n, 0, p, 2, p == 2) // an edge needs none
	}
	do(t, n, tick(0))
	do(t, n, tick(0))
	checkMay(t, "two", n, 0, 0, 2, false)
	do(t, n, tick(0))
	checkMay(t, "three", n, 0, 0, 2, true)
	for range 7 {
		do(t, n, tick(0))
	}
	do(t, n, from(0, 2, all(t, "")))
	if l := n.Bridge(0).Table(); !slices.Equal(l, []fdb.Entry{{Vlan: 2, Mac: station(1), Port: 2, Heard: 10}}) {
		t.Errorf("%+v", l)
	}
}

// P17.2: Kinds 4 to 6 with nothing on the way, whatever N is.
func TestNothingOnWay(t *testing.T) {
	var acts []Act
	for _, kind := range []int{doBring, doLose, doRepeat} {
		for _, n := range []int{0, 1, -1, 200, math.MinInt, math.MaxInt} {
			acts = append(acts, carries(kind, n), Act{Kind: kind, A: -1, P: 9, B: 9, Q: -1, N: n})
		}
	}
	refuse(t, "nothing on the way", two, api.ErrNone, acts...)
	refuse(t, "new", func(t *testing.T) *Net { return made(t, box(0)) }, api.ErrNone, acts...)
}

// someOnWay has so many frames, the texts "0", "1" .., on the way from bridge 0 to bridge 1.
func someOnWay(t *testing.T, count int) *Net {
	t.Helper()
	n := two(t)
	for i := range count {
		do(t, n, from(0, 2, all(t, strconv.Itoa(i))))
	}
	checkNumbers(t, "some", n, count, 0)
	return n
}

// way answers what is on the way to bridge 1 as those texts.
func way(t *testing.T, texts ...string) []Given {
	var out []Given
	for _, text := range texts {
		out = append(out, given(1, 0, inVlan2(t, text)))
	}
	return out
}

// P17.2: which frame N means, and what becomes of it by Kinds 4, 5 and 6.
func TestCarry(t *testing.T) {
	for _, x := range []struct{ count, n, want int }{
		{3, 0, 0}, {3, 1, 1}, {3, 2, 2}, {3, 3, 0}, {3, 4, 1}, {3, 5, 2}, {3, 6, 0}, {3, 3000001, 1},
		{3, -1, 2}, {3, -2, 1}, {3, -3, 0}, {3, -4, 2}, {3, -5, 1}, {3, -6, 0}, {3, math.MaxInt, 1}, {3, math.MinInt, 1}, {3, math.MinInt + 1, 2},
		{1, 0, 0}, {1, 1, 0}, {1, -1, 0}, {1, math.MaxInt, 0}, {1, math.MinInt, 0},
		{2, math.MaxInt, 1}, {2, math.MinInt, 0}, {2, -1, 1}, {5, math.MaxInt, 2}, {5, math.MinInt, 2}, {5, -8, 2},
	} {
		name := strconv.Itoa(x.n) + " of " + strconv.Itoa(x.count)
		var before []string
		for i := range x.count {
			before = append(before, strconv.Itoa(i))
		}
		after := slices.Delete(slices.Clone(before), x.want, x.want+1)
		text := strconv.Itoa(x.want)
		out := []Given{given(1, 1, inVlan2(t, text)), given(1, 2, all(t, text)), given(1, 4, all(t, text))}

		n := someOnWay(t, x.count)
		checkGiven(t, name+": brought", do(t, n, carries(doBring, x.n)), out...)
		checkWay(t, name+": brought", n, 0, way(t, after...)...)

		n = someOnWay(t, x.count)
		checkGiven(t, name+": lost", do(t, n, carries(doLose, x.n)))
		checkWay(t, name+": lost", n, 1, way(t, after...)...)

		n = someOnWay(t, x.count)
		checkGiven(t, name+": brought, and left", do(t, n, carries(doRepeat, x.n)), out...)
		checkWay(t, name+": brought, and left", n, 0, way(t, before...)...)
		checkGiven(t, name+": brought again", do(t, n, Act{Kind: doRepeat, A: 8, P: -1, B: 4, Q: 5, N: x.n, Bytes: "x"}), out...)
		checkWay(t, name+": brought again", n, 0, way(t, before...)...)
	}
	// A frame that is lost was never taken in; nobody learns of it.
	n := someOnWay(t, 2)
	good, bad := n.Bridge(1).Count()
	table := n.Bridge(1).Table()
	do(t, n, carries(doLose, 0))
	do(t, n, carries(doLose, 0))
	if g, b := n.Bridge(1).Count(); g != good || b != bad || !slices.Equal(n.Bridge(1).Table(), table) {
		t.Error("taken in", g, b, n.Bridge(1).Table())
	}
	checkWay(t, "all lost", n, 2)
}

// P17.2: what its bridge lets out because of what is brought, at linked ports, is on the way behind all others.
func TestCarryOn(t *testing.T) {
	fill := func() *Net {
		n := row(t)
		do(t, n, from(0, 2, all(t, "a")))
		do(t, n, from(2, 2, all(t, "b")))
		do(t, n, from(0, 2, all(t, "c")))
		return n
	}
	a, b, c := given(1, 0, inVlan2(t, "a")), given(1, 1, inVlan2(t, "b")), given(1, 0, inVlan2(t, "c"))
	on := given(2, 0, inVlan2(t, "a"))
	out := []Given{given(1, 2, all(t, "a")), given(1, 4, all(t, "a"))}
	n := fill()
	checkGiven(t, "brought", do(t, n, carries(doBring, 0)), out...)
	checkWay(t, "brought", n, 0, b, c, on)
	n = fill()
	checkGiven(t, "brought, and left", do(t, n, carries(doRepeat, 0)), out...)
	checkWay(t, "brought, and left", n, 0, a, b, c, on)
	// On the way back, and N as it stands then.
	n = fill()
	checkGiven(t, "back", do(t, n, carries(doBring, 1)), given(1, 2, all(t, "b")), given(1, 4, all(t, "b")))
	back := given(0, 1, inVlan2(t, "b"))
	checkWay(t, "back", n, 0, a, c, back)
	checkGiven(t, "at the end of it", do(t, n, carries(doBring, -1)), given(0, 0, inVlan2(t, "b")), given(0, 2, all(t, "b")), given(0, 4, all(t, "b")))
	checkWay(t, "at the end of it", n, 0, a, c)
	// What was brought was learned there: over the link station 1 was heard last.
	if l := n.Bridge(0).Table(); !slices.Contains(l, fdb.Entry{Vlan: 2, Mac: station(1), Port: 1, Heard: 40}) {
		t.Errorf("%+v", l)
	}
}

// P17.2: Kind 7 of no end, and of a linked one; the first is told first.
func TestHostRefuses(t *testing.T) {
	var acts []Act
	for _, s := range []string{"", "no frame", all(t, "x")} {
		for _, wrong := range strange {
			acts = append(acts, from(wrong, 0, s), from(wrong, 2, s), from(0, wrong, s), from(1, wrong, s), from(wrong, wrong, s))
		}
		acts = append(acts, from(2, 0, s))
	}
	refuse(t, "no end", two, api.ErrRange, acts...)
	refuse(t, "a linked end", two, api.ErrExists, from(0, 0, all(t, "x")), from(1, 0, all(t, "x")), from(0, 0, ""), from(1, 0, "no frame"), Act{Kind: doHost, A: 0, P: 0, B: 1, Q: 1, Bytes: "x"})
}

// P17.2: Kind 7: what goes where.
func TestHost(t *testing.T) {
	n := row(t)
	// Flooded: at the bridge's own ports of the VLAN, and over both links.
	f := all(t, "to all")
	checkGiven(t, "flooded", do(t, n, Act{Kind: doHost, A: 0, P: 2, B: 9, Q: -9, N: 5, Bytes: f}), given(0, 0, inVlan2(t, "to all")), given(0, 4, f))
	checkWay(t, "flooded", n, 0, given(1, 0, inVlan2(t, "to all")))
	checkGiven(t, "over one link", do(t, n, carries(doBring, 0)), given(1, 2, f), given(1, 4, f))
	checkWay(t, "over one link", n, 0, given(2, 0, inVlan2(t, "to all")))
	checkGiven(t, "over two", do(t, n, carries(doBring, 0)), given(2, 1, inVlan2(t, "to all")), given(2, 2, f), given(2, 4, f))
	checkWay(t, "over two", n, 0)
	// An answer: to who was heard, over both links, and to nobody else.
	f = letter(t, station(2), station(1), "answer")
	over := tagged(t, station(2), station(1), "answer", 2)
	checkGiven(t, "answer", do(t, n, from(2, 4, f)))
	checkWay(t, "answer", n, 0, given(1, 1, over))
	checkGiven(t, "answer, over one link", do(t, n, carries(doBring, 0)))
	checkWay(t, "answer, over one link", n, 0, given(0, 1, over))
	checkGiven(t, "answer, over two", do(t, n, carries(doBring, 0)), given(0, 2, f))
	checkWay(t, "answer, over two", n, 0)
	// To a port of the same bridge.
	f = letter(t, station(3), station(1), "near")
	checkGiven(t, "near", do(t, n, from(0, 4, f)), given(0, 2, f))
	checkWay(t, "near", n, 0)
	// Over one link.
	f = letter(t, station(4), station(1), "next")
	checkGiven(t, "next", do(t, n, from(1, 2, f)))
	checkGiven(t, "next", do(t, n, carries(doBring, 0)), given(0, 2, f))
	// To where it comes from.
	checkGiven(t, "to itself", do(t, n, from(0, 2, letter(t, station(5), station(1), "self"))))
	checkWay(t, "to itself", n, 0)
	// The other VLAN: its frames have no tag on the trunks, and go to its ports.
	f = all(t, "other")
	checkGiven(t, "the other VLAN", do(t, n, from(0, 3, f)), given(0, 0, f))
	checkWay(t, "the other VLAN", n, 0, given(1, 0, f))
	checkGiven(t, "the other VLAN", do(t, n, carries(doBring, 0)), given(1, 3, f))
	checkGiven(t, "the other VLAN", do(t, n, carries(doBring, 0)), given(2, 1, f), given(2, 3, f))
	// A host at a trunk.
	f = tagged(t, station(6), everybody, "tagged", 2)
	plain := letter(t, station(6), everybody, "tagged")
	checkGiven(t, "at a trunk", do(t, n, from(0, 0, f)), given(0, 2, plain), given(0, 4, plain))
	checkWay(t, "at a trunk", n, 0, given(1, 0, f))
}

// P17.2, P0.4: bytes that are no frame, or none that may be here, are OK, are counted, and nothing comes of them.
func TestBadBytes(t *testing.T) {
	bad := []string{"", "x", strings.Repeat("x", 13), "\x02ddddd\x03sssss\x08\x00p", strings.Repeat("x", 1<<16), tagged(t, station(1), everybody, "x", 2), all(t, strings.Repeat("p", 1500)) + "p",
		"\x01\x80\xc2\x00\x00\x00\x02sssss\x00\x04\x42\x42\x03\x09"}
	n, twin := two(t), two(t)
	good, were := n.Bridge(0).Count()
	for i, s := range bad {
		checkGiven(t, "bad", do(t, n, from(0, 2, s)))
		if g, b := n.Bridge(0).Count(); g != good || b != were+i+1 {
			t.Errorf("%d: %d good, %d bad", i, g, b)
		}
		checkWay(t, "bad", n, 0)
	}
	checkAlike(t, n, twin, 2)
	if !reflect.DeepEqual(n.Bridge(1), twin.Bridge(1)) {
		t.Error("the other bridge changed")
	}
}

// checkAlike asks that all that is to be seen of two networks is the same, but for how many frames came in; now, and in the time to come.
func checkAlike(t *testing.T, n, twin *Net, vlan int) {
	t.Helper()
	for i := range 60 {
		for a, p := range n.places {
			if !slices.Equal(n.Bridge(a).Table(), twin.Bridge(a).Table()) {
				t.Fatalf("at %d: bridge %d knows %+v", i, a, n.Bridge(a).Table())
			}
			for port := range p.ports {
				for v := range 5 {
					learn, forward := n.Bridge(a).May(port, v)
					if l, f := twin.Bridge(a).May(port, v); l != learn || f != forward {
						t.Fatalf("at %d: bridge %d, port %d, VLAN %d: %t, %t", i, a, port, v, learn, forward)
					}
				}
			}
		}
		if !slices.Equal(n.way, twin.way) || n.lost != twin.lost || !reflect.DeepEqual(n.links, twin.links) {
			t.Fatalf("at %d: on the way %#v, lost %d", i, onWay(n), n.lost)
		}
		for a := range n.places {
			checkGiven(t, "a tick", do(t, n, tick(a)), do(t, twin, tick(a))...)
		}
		checkGiven(t, "brought", bringAll(t, n), bringAll(t, twin)...)
		if t.Failed() {
			t.FailNow()
		}
	}
}

// P17.2: no other Kind is any, whatever else the act tells.
func TestKinds(t *testing.T) {
	busy := func(t *testing.T) *Net { return someOnWay(t, 2) }
	var acts []Act
	for _, kind := range []int{-1, 8, 9, -7, 16, 256, 1 << 32, math.MinInt, math.MaxInt} {
		acts = append(acts, Act{Kind: kind}, Act{Kind: kind, A: -1, P: -1}, Act{Kind: kind, A: 1, P: 1, B: 1, Q: 2, N: 1, On: true, Bytes: all(t, "x")})
	}
	refuse(t, "of no kind", busy, api.ErrKind, acts...)
	refuse(t, "of no kind", func(t *testing.T) *Net { return made(t, box(0)) }, api.ErrKind, acts...)
}

// P17.2, P17.3: there never are more than 200 on the way; what more is sent is lost, and what goes to hosts isn't.
func TestFull(t *testing.T) {
	text := func(i int) string { return strconv.Itoa(i) }
	n := someOnWay(t, 199)
	f := all(t, "last")
	checkGiven(t, "the last one", do(t, n, from(0, 2, f)), given(0, 1, inVlan2(t, "last")), given(0, 4, f))
	checkNumbers(t, "the last one", n, 200, 0)
	f = all(t, "more")
	checkGiven(t, "more", do(t, n, from(0, 2, f)), given(0, 1, inVlan2(t, "more")), given(0, 4, f))
	checkNumbers(t, "more", n, 200, 1)
	checkGiven(t, "the last one is the last one", onWay(n)[198:], given(1, 0, inVlan2(t, text(198))), given(1, 0, inVlan2(t, "last")))
	// Brought, and gone: room for one more.
	do(t, n, carries(doBring, 0))
	checkNumbers(t, "brought", n, 199, 1)
	do(t, n, from(1, 2, all(t, "room")))
	checkNumbers(t, "room", n, 200, 1)
	do(t, n, from(1, 2, all(t, "none")))
	checkNumbers(t, "none", n, 200, 2)
	do(t, n, carries(doLose, 5))
	checkNumbers(t, "lost", n, 199, 3)
	// Of 200, the least and the greatest number.
	n = someOnWay(t, 200)
	for _, x := range []struct{ n, want int }{{0, 0}, {199, 199}, {200, 0}, {-1, 199}, {-200, 0}, {math.MinInt, 192}, {math.MaxInt, 7}} {
		out := do(t, n, carries(doRepeat, x.n))
		checkGiven(t, text(x.n), out, given(1, 1, inVlan2(t, text(x.want))), given(1, 2, all(t, text(x.want))), given(1, 4, all(t, text(x.want))))
	}
	checkNumbers(t, "left there", n, 200, 0)
	// A cut link makes room for all.
	do(t, n, cut(0, 0))
	checkWay(t, "cut", n, 200)
}

// P17.2: with 200 on the way, or 199, what a bridge lets out at a link because of what is brought: by Kind 4 there is room for it, by Kind 6 none.
func TestFullRow(t *testing.T) {
	fill := func(count int) *Net {
		n := row(t)
		for i := range count {
			do(t, n, from(0, 2, all(t, strconv.Itoa(i))))
		}
		return n
	}
	out := []Given{given(1, 2, all(t, "0")), given(1, 4, all(t, "0"))}
	on := given(2, 0, inVlan2(t, "0"))
	n := fill(200)
	checkGiven(t, "brought", do(t, n, carries(doBring, 0)), out...)
	checkNumbers(t, "brought", n, 200, 0)
	checkGiven(t, "the last one", onWay(n)[199:], on)
	n = fill(200)
	first := onWay(n)
	checkGiven(t, "left there", do(t, n, carries(doRepeat, 0)), out...)
	checkWay(t, "left there", n, 1, first...)
	n = fill(199)
	checkGiven(t, "left there, of 199", do(t, n, carries(doRepeat, 0)), out...)
	checkNumbers(t, "left there, of 199", n, 200, 0)
	checkGiven(t, "the last one, of 199", onWay(n)[199:], on)
	checkGiven(t, "left there again", do(t, n, carries(doRepeat, 0)), out...)
	checkNumbers(t, "left there again", n, 200, 1)
}

// P17.2: what a bridge sends of itself beyond 200 is lost: the first of it finds room.
func TestFullTick(t *testing.T) {
	sent := sends(t, 1)
	for room := range 5 {
		n := made(t, boxes(2)...)
		do(t, n, link(0, 0, 1, 0))
		for p := range 5 {
			do(t, n, power(0, p, true))
		}
		// As no act makes so many without a tick.
		for range 200 - room {
			n.way = append(n.way, carried{end{0, 0}, "x"})
		}
		var out, way []Given
		for _, s := range sent {
			if s.Port == 0 {
				way = append(way, given(1, 0, s.Bytes))
			} else {
				out = append(out, given(0, s.Port, s.Bytes))
			}
		}
		if len(way) != 3 {
			t.Fatal(way)
		}
		fits := min(room, 3)
		checkGiven(t, "full", do(t, n, tick(0)), out...)
		checkNumbers(t, "full", n, 200-room+fits, 3-fits)
		checkGiven(t, "what fits", onWay(n)[200-room:], way[:fits]...)
	}
}

// P17.2: bridges are the network's own; of no place there is none.
func TestBridge(t *testing.T) {
	n := made(t, boxes(3)...)
	for _, at := range []int{-1, 3, 4, 8, math.MinInt, math.MaxInt} {
		if b := n.Bridge(at); b != nil {
			t.Error(at, b)
		}
	}
	for at := range 3 {
		if b := n.Bridge(at); b == nil || b != n.Bridge(at) || b == n.Bridge((at+1)%3) {
			t.Error(at, b)
		}
	}
	// What its bridge is told, the network is.
	for p := range 5 {
		n.Bridge(2).Power(p, true)
	}
	for range 3 {
		n.Bridge(2).Tick()
	}
	f := all(t, "x")
	checkGiven(t, "told by hand", do(t, n, from(2, 2, f)), given(2, 0, inVlan2(t, "x")), given(2, 1, inVlan2(t, "x")), given(2, 4, f))
	if l := n.Bridge(2).Table(); len(l) != 1 || l[0].Mac != station(1) {
		t.Errorf("%+v", l)
	}
	if made(t, boxes(8)...).Bridge(7) == nil || made(t, boxes(8)...).Bridge(8) != nil {
		t.Error("of 8")
	}
}

// Rule 3: what is given out is new memory each time.
func TestGivenIsNew(t *testing.T) {
	n := two(t)
	first := do(t, n, from(0, 2, all(t, "x")))
	kept := slices.Clone(first)
	second := do(t, n, from(0, 2, all(t, "y")))
	for i := range second {
		second[i] = Given{A: 9}
	}
	checkGiven(t, "the first answer", first, kept...)
	again := do(t, n, carries(doRepeat, 0))
	for i := range again {
		again[i] = Given{A: 9}
	}
	checkGiven(t, "brought again", do(t, n, carries(doRepeat, 0)), given(1, 1, inVlan2(t, "x")), given(1, 2, all(t, "x")), given(1, 4, all(t, "x")))
	checkWay(t, "on the way", n, 0, way(t, "x", "y")...)
}
