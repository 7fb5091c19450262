package lannet

import (
	"math"
	"math/rand"
	"reflect"
	"slices"
	"strconv"
	"strings"
	"testing"

	"treebridge/api"
	"treebridge/bpdu"
	"treebridge/bridge"
	"treebridge/fdb"
	"treebridge/frame"
	"treebridge/llc"
	"treebridge/sstp"
	"treebridge/state"
	"treebridge/vlanport"
)

// post is a frame on the way, and whom it is for.
type post struct {
	to    end
	bytes string
}

// model is a network as the chapter tells it, of bridges of its own.
type model struct {
	bridges []*bridge.Bridge
	ports   []int
	pairs   [][2]end
	way     []post
	lost    int
	put     int // how many frames left a bridge at a linked end
}

func newModel(t *testing.T, l []bridge.Config) *model {
	t.Helper()
	m := &model{}
	for _, c := range l {
		b, e := bridge.New(c)
		if e != api.OK {
			t.Fatal(e)
		}
		m.bridges = append(m.bridges, b)
		m.ports = append(m.ports, len(c.Ports))
	}
	return m
}

func (m *model) there(x end) bool {
	for a, ports := range m.ports {
		for p := range ports {
			if x == (end{a, p}) {
				return true
			}
		}
	}
	return false
}

// other answers the place of the pair that an end is in, and its other end; -1 of none.
func (m *model) other(x end) (int, end) {
	for i, pair := range m.pairs {
		if pair[0] == x {
			return i, pair[1]
		}
		if pair[1] == x {
			return i, pair[0]
		}
	}
	return -1, end{}
}

func (m *model) leave(a int, l []bridge.Sent) []Given {
	var out []Given
	for _, s := range l {
		i, to := m.other(end{a, s.Port})
		switch {
		case i < 0:
			out = append(out, Given{a, s.Port, s.Bytes})
		case len(m.way) == 200:
			m.put++
			m.lost++
		default:
			m.put++
			m.way = append(m.way, post{to, s.Bytes})
		}
	}
	return out
}

func (m *model) in(x end, s string) []Given {
	out, _ := m.bridges[x.bridge].In(x.port, s)
	return m.leave(x.bridge, out)
}

// number is N modulo how many there are, found by steps, and for great numbers by the halves of a step.
func (m *model) number(n int) int {
	count := len(m.way)
	for step := count << 50; step >= count; step /= 2 {
		step -= step % count
		for n < 0 && n+step <= 0 {
			n += step
		}
		for n >= step {
			n -= step
		}
	}
	for n < 0 {
		n += count
	}
	return n
}

func (m *model) do(a Act) ([]Given, api.Errno) {
	x, y := end{a.A, a.P}, end{a.B, a.Q}
	at, _ := m.other(x)
	switch a.Kind {
	case 0:
		beside, _ := m.other(y)
		if !m.there(x) || !m.there(y) || x == y {
			return nil, api.ErrRange
		}
		if at >= 0 || beside >= 0 {
			return nil, api.ErrExists
		}
		m.pairs = append(m.pairs, [2]end{x, y})
		return nil, api.OK
	case 1:
		if !m.there(x) {
			return nil, api.ErrRange
		}
		if at < 0 {
			return nil, api.ErrNone
		}
		pair := m.pairs[at]
		m.pairs = append(append([][2]end{}, m.pairs[:at]...), m.pairs[at+1:]...)
		var stays []post
		for _, p := range m.way {
			if p.to == pair[0] || p.to == pair[1] {
				m.lost++
			} else {
				stays = append(stays, p)
			}
		}
		m.way = stays
		return nil, api.OK
	case 2:
		if !m.there(x) {
			return nil, api.ErrRange
		}
		return nil, m.bridges[a.A].Power(a.P, a.On)
	case 3:
		if a.A < 0 || a.A >= len(m.bridges) {
			return nil, api.ErrRange
		}
		m.bridges[a.A].Tick()
		return m.leave(a.A, m.bridges[a.A].Send()), api.OK
	case 4, 5, 6:
		return m.carry(a)
	case 7:
		if !m.there(x) {
			return nil, api.ErrRange
		}
		if at >= 0 {
			return nil, api.ErrExists
		}
		return m.in(x, a.Bytes), api.OK
	}
	return nil, api.ErrKind
}

func (m *model) carry(a Act) ([]Given, api.Errno) {
	if len(m.way) == 0 {
		return nil, api.ErrNone
	}
	i := m.number(a.N)
	p := m.way[i]
	rest := append(append([]post{}, m.way[:i]...), m.way[i+1:]...)
	switch a.Kind {
	case 4:
		m.way = rest
		return m.in(p.to, p.bytes), api.OK
	case 5:
		m.way = rest
		m.lost++
		return nil, api.OK
	}
	return m.in(p.to, p.bytes), api.OK
}

// some are so many numbers of 1 to of, rising.
func some(r *rand.Rand, n, of int) []int {
	l := r.Perm(of)[:n]
	for at := range l {
		l[at]++
	}
	slices.Sort(l)
	return l
}

// mixed is a set-up at random, of few VLANs, that meet; half of its ports are such that they agree with those of others.
func mixed(r *rand.Rand, n int) bridge.Config {
	c := box(n)
	c.Priority, c.Room, c.Ports = r.Intn(16), 1+r.Intn(12), nil
	c.Times = state.Times{Max: 6 + r.Intn(35), Hello: 1 + r.Intn(2), Delay: 4 + r.Intn(5)}
	c.Vlans = some(r, 2+r.Intn(2), 3)
	for range 2 + r.Intn(4) {
		p := trunk(1, 1, 2, 3)
		switch r.Intn(6) {
		case 0:
			p = trunk(1+r.Intn(4), some(r, r.Intn(5), 4)...)
		case 1, 2:
			p = access(1 + r.Intn(4))
		}
		p.Cost, p.Edge = uint64(r.Intn(4)), r.Intn(3) == 0
		c.Ports = append(c.Ports, p)
	}
	return c
}

func ieee(t *testing.T, src string, b bpdu.Bpdu) string {
	t.Helper()
	inner, e := bpdu.Print(b)
	if e != api.OK {
		t.Fatal(e)
	}
	f, e := llc.Ieee(src, inner)
	if e != api.OK {
		t.Fatal(e)
	}
	return printed(t, f)
}

func sstpOf(t *testing.T, src string, b bpdu.Bpdu, vlan int) string {
	t.Helper()
	inner, e := sstp.Print(b, vlan)
	if e != api.OK {
		t.Fatal(e)
	}
	f, e := llc.Sstp(src, inner)
	if e != api.OK {
		t.Fatal(e)
	}
	return printed(t, f)
}

// told is a BPDU of a designated port, that isn't as good as any bridge's own.
func told() bpdu.Bpdu {
	return bpdu.Bpdu{Kind: 3, Flags: 0x0c, Vector: api.Vector{Root: math.MaxUint64, Cost: 9, Bridge: math.MaxUint64, Port: 1}, Max: 20 * 256, Hello: 2 * 256, Delay: 15 * 256}
}

// mixedBytes are a host's at random: a frame of it, a BPDU, or none that can be read.
func mixedBytes(t *testing.T, r *rand.Rand) string {
	src, dst := station(r.Intn(5)), station(r.Intn(5))
	if r.Intn(3) == 0 {
		dst = everybody
	}
	s := letter(t, src, dst, "hi")
	switch r.Intn(8) {
	case 0:
		s = ieee(t, src, told())
	case 1:
		s = sstpOf(t, src, told(), 1+r.Intn(4))
	case 2:
		s = s[:r.Intn(len(s))]
	case 3, 4, 5:
		s = tagged(t, src, dst, "hi", r.Intn(5))
	}
	return s
}

// mixedAct is one at random, mostly one that is to be done.
func mixedAct(t *testing.T, r *rand.Rand, l []bridge.Config, busy bool) Act {
	numbers := []int{-1, 8, 9, 5, 200, math.MinInt, math.MaxInt, 1 << 40}
	whole := func() end {
		a := r.Intn(len(l))
		return end{a, r.Intn(len(l[a].Ports))}
	}
	x, y := whole(), whole()
	a := Act{A: x.bridge, P: x.port, B: y.bridge, Q: y.port, N: r.Intn(500) - 250, On: r.Intn(6) > 0, Bytes: mixedBytes(t, r)}
	kinds := []int{0, 0, 1, 2, 2, 2, 3, 3, 3, 3, 3, 3, 4, 4, 4, 4, 4, 4, 5, 6, 7, 7, 7, 7, 7, 7}
	if busy {
		kinds = []int{0, 0, 0, 1, 2, 2, 2, 3, 3, 3, 3, 3, 3, 3, 3, 3, 3, 3, 3, 3, 3, 3, 3, 3, 3, 3, 4, 4, 5, 6, 6, 7, 7, 7, 7, 7, 7, 7}
	}
	a.Kind = kinds[r.Intn(len(kinds))]
	if busy && a.Kind == 1 && r.Intn(20) > 0 {
		a.Kind = 4
	}
	if r.Intn(8) == 0 {
		wrong := numbers[r.Intn(len(numbers))]
		for i, field := range []*int{&a.Kind, &a.A, &a.P, &a.B, &a.Q, &a.N} {
			if r.Intn(6) == i {
				*field = wrong
			}
		}
	}
	return a
}

// P17.1 to P17.3: acts at random, on networks at random, held against the chapter.
func TestActs(t *testing.T) {
	r := rand.New(rand.NewSource(17))
	met := map[string]int{}
	for run := range 120 {
		var l []bridge.Config
		for at := range 1 + r.Intn(3) + 5*(r.Intn(8)/7) {
			l = append(l, mixed(r, at))
		}
		n, m := made(t, l...), newModel(t, l)
		begin(t, r, l, n, m, met)
		busy := run%4 == 0
		for range 150 + 350*(1-min(run%4, 1)) {
			a := mixedAct(t, r, l, busy)
			checkAct(t, n, m, a, met)
			if a.Kind == doHost && r.Intn(2) == 0 {
				checkAct(t, n, m, carries(doRepeat, -1), met)
			}
			for !busy && a.Kind != doHost && len(m.way) > 0 && r.Intn(20) > 0 {
				checkAct(t, n, m, carries(doBring, r.Intn(3)), met)
			}
		}
		for at, b := range m.bridges {
			if n.Bridge(at) == nil || !reflect.DeepEqual(n.Bridge(at), b) {
				t.Fatalf("run %d: bridge %d isn't as told", run, at)
			}
		}
	}
	for _, name := range []string{"0 0", "0 1", "0 6", "1 0", "1 1", "1 5", "2 0", "2 1", "3 0", "3 1", "4 0", "4 5", "5 0", "5 5", "6 0", "6 5", "7 0", "7 1", "7 6", "kind 9", "full", "overflow", "given by 3", "given by 4", "given by 6", "given by 7", "put by 3", "put by 4", "put by 6", "put by 7"} {
		if met[name] < 10 {
			t.Error(name, "met", met[name])
		}
	}
}

// begin links some ends, and mostly has ports come to forward.
func begin(t *testing.T, r *rand.Rand, l []bridge.Config, n *Net, m *model, met map[string]int) {
	t.Helper()
	for range r.Intn(4) {
		a := mixedAct(t, r, l, false)
		a.Kind = doLink
		checkAct(t, n, m, a, met)
	}
	for a, c := range l {
		for p := range c.Ports {
			checkAct(t, n, m, power(a, p, r.Intn(8) > 0), met)
		}
	}
	for range r.Intn(40) {
		for a := range l {
			checkAct(t, n, m, tick(a), met)
		}
		for len(m.way) > 0 {
			checkAct(t, n, m, carries(doBring, 0), met)
		}
	}
}

func checkAct(t *testing.T, n *Net, m *model, a Act, met map[string]int) {
	t.Helper()
	put, lost := m.put, m.lost
	want, wantE := m.do(a)
	out, e := n.Do(a)
	if e != wantE || !slices.Equal(out, want) {
		t.Fatalf("%#v: %#v, %d, want %#v, %d", a, out, e, want, wantE)
	}
	if n.Way() != len(m.way) || n.Lost() != m.lost || n.Way() > 200 {
		t.Fatalf("%#v: %d on the way, %d lost, want %d, %d", a, n.Way(), n.Lost(), len(m.way), m.lost)
	}
	for i, c := range n.way {
		if c.to != m.way[i].to || c.bytes != m.way[i].bytes {
			t.Fatalf("%#v: on the way at %d: %#v, want %#v", a, i, c, m.way[i])
		}
	}
	for _, g := range out {
		if at, _ := m.other(end{g.A, g.P}); at >= 0 {
			t.Fatalf("%#v: given out at a linked end: %#v", a, g)
		}
	}
	kind := strconv.Itoa(a.Kind)
	met[kind+" "+strconv.Itoa(int(e))]++
	if a.Kind < 0 || a.Kind > 7 {
		met["kind "+strconv.Itoa(int(e))]++
	}
	met["given by "+kind] += len(out)
	met["put by "+kind] += m.put - put
	if len(m.way) == 200 {
		met["full"]++
	}
	if m.lost > lost && a.Kind != 1 && a.Kind != 5 {
		met["overflow"]++
	}
}

// cable is a link, and what stands at both of its ends.
type cable struct{ x, y end }

// The shapes in which two and three are linked, by the ports from 0 on.
var shapes = map[string][]cable{
	"two in a row":       {{end{0, 0}, end{1, 0}}},
	"two, doubly":        {{end{0, 0}, end{1, 0}}, {end{0, 1}, end{1, 1}}},
	"three in a row":     {{end{0, 1}, end{1, 0}}, {end{1, 1}, end{2, 0}}},
	"three in a ring":    {{end{0, 1}, end{1, 0}}, {end{1, 1}, end{2, 0}}, {end{2, 1}, end{0, 0}}},
	"three, doubly":      {{end{0, 0}, end{1, 0}}, {end{0, 1}, end{1, 1}}, {end{1, 2}, end{2, 0}}, {end{1, 3}, end{2, 1}}},
	"one, with itself":   {{end{0, 0}, end{0, 1}}},
	"a ring, and itself": {{end{0, 1}, end{1, 0}}, {end{1, 1}, end{2, 0}}, {end{2, 1}, end{0, 0}}, {end{2, 2}, end{2, 3}}},
}

func shapeNames() []string {
	var names []string
	for name := range shapes {
		names = append(names, name)
	}
	slices.Sort(names)
	return names
}

// firstHost is the first of a bridge's ports that no shape links.
const firstHost = 4

// agreed answers set-ups whose linked ends agree: both trunks of one Native, or both access ports of one.
func agreed(r *rand.Rand, cables []cable) []bridge.Config {
	bridges := 0
	for _, c := range cables {
		bridges = max(bridges, c.x.bridge+1, c.y.bridge+1)
	}
	l := boxes(bridges)
	for at := range l {
		l[at].Vlans = some(r, 2+r.Intn(2), 3)
		l[at].Priority = r.Intn(16)
		l[at].Ports = nil
		for range firstHost {
			l[at].Ports = append(l[at].Ports, access(1+r.Intn(3)))
		}
		for vlan := 1; vlan <= 3; vlan++ {
			l[at].Ports = append(l[at].Ports, edge(vlan), access(vlan))
		}
		l[at].Ports = append(l[at].Ports, trunk(1+r.Intn(3), 1, 2, 3))
	}
	for _, c := range cables {
		native, isTrunk := 1+r.Intn(3), r.Intn(4) > 0
		for _, x := range []end{c.x, c.y} {
			p := access(native)
			if isTrunk {
				p = trunk(native, some(r, 2+r.Intn(2), 3)...)
			}
			l[x.bridge].Ports[x.port] = p
		}
	}
	return l
}

// marked is a host's frame that tells in its text of which VLAN it came in, 0 of none.
func marked(t *testing.T, r *rand.Rand, set vlanport.Port, number int) string {
	t.Helper()
	f := api.Frame{Dst: station(r.Intn(6)), Src: station(r.Intn(6)), Type: hostType}
	if r.Intn(2) == 0 {
		f.Dst = everybody
	}
	if r.Intn(3) > 0 && set.Trunk {
		f.Tagged, f.Vlan = true, 1+r.Intn(4)
	}
	vlan, e := vlanport.In(set, f)
	if e != api.OK {
		vlan = 0
	}
	f.Payload = strconv.Itoa(vlan) + " " + strconv.Itoa(number)
	return printed(t, f)
}

// mark reads that; false of what no host sent.
func mark(t *testing.T, s string) (int, api.Frame, bool) {
	t.Helper()
	f, e := frame.Parse(s)
	if e != api.OK {
		t.Fatalf("%q: %d", s, e)
	}
	if llc.Kind(f) != 0 {
		return 0, f, false
	}
	text, _, _ := strings.Cut(f.Payload, " ")
	vlan, err := strconv.Atoi(text)
	if err != nil {
		t.Fatalf("%q: %v", s, err)
	}
	return vlan, f, true
}

// checkLeft asks of all host's frames that left a bridge because of an act what P0.1 and P0.2 promise; at is where a frame came in for it.
func checkLeft(t *testing.T, name string, l []bridge.Config, n *Net, at end, out []Given, sent []carried) int {
	t.Helper()
	count := 0
	left := func(x end, s string) {
		vlan, f, ok := mark(t, s)
		if !ok {
			return
		}
		count++
		_, forward := n.Bridge(x.bridge).May(x.port, vlan)
		is, e := vlanport.In(l[x.bridge].Ports[x.port].Set, f)
		if !forward || e != api.OK || is != vlan || x.bridge != at.bridge || x == at {
			t.Fatalf("%s: came in at %v, of VLAN %d, leaves at %v, of VLAN %d, %d: %t", name, at, vlan, x, is, e, forward)
		}
	}
	for _, g := range out {
		if n.linked(end{g.A, g.P}) {
			t.Fatalf("%s: given out at a linked end: %v", name, g)
		}
		left(end{g.A, g.P}, g.Bytes)
	}
	for _, c := range sent {
		left(n.links[c.to], c.bytes)
		// Where it comes in next, it is of the same VLAN, or of none.
		if vlan, f, ok := mark(t, c.bytes); ok {
			if is, e := vlanport.In(l[c.to.bridge].Ports[c.to.port].Set, f); e == api.OK && is != vlan {
				t.Fatalf("%s: of VLAN %d comes to VLAN %d at %v", name, vlan, is, c.to)
			}
		}
	}
	return count
}

// wander is an act at random of a network of that shape; where a frame comes in by it, if at all, and how many stay on the way.
func wander(t *testing.T, r *rand.Rand, l []bridge.Config, cables []cable, n *Net, number int) (Act, end, int) {
	t.Helper()
	a := r.Intn(len(l))
	p := r.Intn(len(l[a].Ports))
	none := end{-1, -1}
	switch k := r.Intn(100); {
	case k < 30:
		return tick(a), none, n.Way()
	case k < 65 && n.Way() > 0:
		i := r.Intn(n.Way())
		switch {
		case k < 60:
			return carries(doBring, i), n.way[i].to, n.Way() - 1
		case k < 63:
			return carries(doRepeat, i), n.way[i].to, n.Way()
		}
		return carries(doLose, i), none, n.Way() - 1
	case k < 68:
		return power(a, p, r.Intn(4) > 0), none, n.Way()
	case k < 70:
		c := cables[r.Intn(len(cables))]
		if n.linked(c.x) {
			return cut(c.x.bridge, c.x.port), none, n.Way()
		}
		return link(c.y.bridge, c.y.port, c.x.bridge, c.x.port), none, n.Way()
	}
	for n.linked(end{a, p}) {
		p = firstHost + r.Intn(len(l[a].Ports)-firstHost)
	}
	return from(a, p, marked(t, r, l[a].Ports[p].Set, number)), end{a, p}, n.Way()
}

// P0.1, P0.2: whatever is lost, brought twice, late, cut, linked, on and off: a host's frame leaves where its VLAN may be forwarded alone, not where it came in, and as one of its VLAN.
func TestSafeAndApart(t *testing.T) {
	for _, name := range shapeNames() {
		r := rand.New(rand.NewSource(1))
		cables := shapes[name]
		left := 0
		for range 6 {
			l := agreed(r, cables)
			n := made(t, l...)
			for _, c := range cables {
				do(t, n, link(c.x.bridge, c.x.port, c.y.bridge, c.y.port))
			}
			on(t, n)
			if r.Intn(2) == 0 {
				settle(t, n, 3)
			}
			for number := range 600 {
				a, at, stay := wander(t, r, l, cables, n, number)
				out := do(t, n, a)
				var sent []carried
				if a.Kind != doCut {
					sent = n.way[stay:]
				}
				left += checkLeft(t, name, l, n, at, out, sent)
				if t.Failed() {
					t.FailNow()
				}
			}
		}
		if left < 500 {
			t.Error(name, "only", left, "left")
		}
	}
}

// comes tells at which ends a frame is given out, and how often, if nothing is lost.
func comes(t *testing.T, n *Net, x end, s string) map[end]int {
	t.Helper()
	got := map[end]int{}
	out := do(t, n, from(x.bridge, x.port, s))
	for _, g := range append(out, bringAll(t, n)...) {
		got[end{g.A, g.P}]++
	}
	return got
}

// Where nothing is lost, and the trees have settled, a frame comes just once to each host of its VLAN, and, of who was heard, to that one alone; in all shapes.
func TestSettled(t *testing.T) {
	for _, name := range shapeNames() {
		cables := shapes[name]
		l := boxes(1 + cables[len(cables)-1].x.bridge)
		for _, c := range cables {
			for c.x.bridge >= len(l) || c.y.bridge >= len(l) {
				l = boxes(len(l) + 1)
			}
		}
		for at := range l {
			l[at].Ports = []bridge.Port{trunk(1, 1, 2), trunk(1, 1, 2), trunk(1, 1, 2), trunk(1, 1, 2), edge(1), edge(2)}
		}
		n := made(t, l...)
		for _, c := range cables {
			do(t, n, link(c.x.bridge, c.x.port, c.y.bridge, c.y.port))
		}
		on(t, n)
		settle(t, n, 45)
		for vlan := 1; vlan <= 2; vlan++ {
			port := firstHost + vlan - 1
			for a := range l {
				want := map[end]int{}
				for b := range l {
					for p := range 6 {
						member := p < firstHost || p == port
						if x := (end{b, p}); member && !n.linked(x) && x != (end{a, port}) {
							want[x] = 1
						}
					}
				}
				if got := comes(t, n, end{a, port}, letter(t, station(a), everybody, "x")); !reflect.DeepEqual(got, want) {
					t.Errorf("%s: VLAN %d from %d: %v, want %v", name, vlan, a, got, want)
				}
			}
			for a := range l {
				for b := range l {
					want := map[end]int{}
					if a != b {
						want[end{b, port}] = 1
					}
					if got := comes(t, n, end{a, port}, letter(t, station(a), station(b), "x")); !reflect.DeepEqual(got, want) {
						t.Errorf("%s: VLAN %d from %d to %d: %v, want %v", name, vlan, a, b, got, want)
					}
				}
			}
		}
		checkNumbers(t, name, n, 0, 0)
	}
}

// heardOf keeps, of a network of two bridges linked at 0.0 and 1.0, when each end heard last that they don't agree on a VLAN.
type heardOf struct {
	n     *Net
	l     []bridge.Config
	now   [2]int
	times [2]map[int]int // by VLANs
}

// tick lets a tick of one bridge go by.
func (h *heardOf) tick(t *testing.T, a int) {
	t.Helper()
	do(t, h.n, tick(a))
	h.now[a]++
}

// bring brings all, and keeps what is heard by it.
func (h *heardOf) bring(t *testing.T) {
	t.Helper()
	for h.n.Way() > 0 {
		h.hear(t, h.n.way[0])
		do(t, h.n, carries(doBring, 0))
	}
}

func (h *heardOf) hear(t *testing.T, c carried) {
	t.Helper()
	f, e := frame.Parse(c.bytes)
	if e != api.OK {
		t.Fatal(e)
	}
	a := c.to.bridge
	set := h.l[a].Ports[0].Set
	received, e := vlanport.In(set, f)
	if e != api.OK || llc.Kind(f) != 2 {
		return
	}
	inner, _ := llc.Inner(f)
	_, vlan, e := sstp.Parse(inner)
	if e != api.OK {
		t.Fatal(e)
	}
	if vlan != received {
		h.times[a][received] = h.now[a]
		if set.Trunk {
			h.times[a][vlan] = h.now[a]
		}
	}
}

func (h *heardOf) blocked(a, vlan int) bool {
	at, ok := h.times[a][vlan]
	return ok && h.now[a] < at+3*h.l[a].Times.Hello
}

// check asks that what is blocked isn't learned nor forwarded; and, if all trees have settled, that what isn't is forwarded.
func (h *heardOf) check(t *testing.T, name string, settled bool, met map[bool]int) {
	t.Helper()
	for a := range 2 {
		for vlan := 1; vlan <= 3; vlan++ {
			learn, forward := h.n.Bridge(a).May(0, vlan)
			blocked := h.blocked(a, vlan)
			if blocked && (learn || forward) {
				t.Fatalf("%s: at %v: bridge %d, VLAN %d isn't blocked", name, h.now, a, vlan)
			}
			if settled && !blocked && !forward && vlanport.Has(h.l[a].Ports[0].Set, vlan) {
				t.Fatalf("%s: at %v: bridge %d, VLAN %d is blocked", name, h.now, a, vlan)
			}
			met[blocked]++
		}
	}
}

// checkStays asks that no host's frame of a VLAN that an end blocks comes from the other bridge to this one, or to the other.
func (h *heardOf) checkStays(t *testing.T, name string) {
	t.Helper()
	for a := range 2 {
		for vlan := 1; vlan <= 3; vlan++ {
			for x := range comes(t, h.n, end{a, vlan}, all(t, "x")) {
				if x.bridge != a && (h.blocked(a, vlan) || h.blocked(x.bridge, x.port)) {
					t.Fatalf("%s: VLAN %d from %d comes to %v", name, vlan, a, x)
				}
			}
		}
	}
}

// P0.3: VLANs on which the ends of a link don't agree are blocked till three Hello times are over since that was heard last, and no others are.
func TestBlocks(t *testing.T) {
	met := map[bool]int{}
	for _, x := range []struct {
		name string
		p, q bridge.Port
	}{
		{"Natives 1 and 2", trunk(1, 1, 2, 3), trunk(2, 1, 2, 3)},
		{"Natives 2 and 1", trunk(2, 1, 2, 3), trunk(1, 1, 2, 3)},
		{"Natives 3 and 2", trunk(3, 1, 2, 3), trunk(2, 1, 2, 3)},
		{"Natives 3 and 1", trunk(3, 1, 2, 3), trunk(1, 1, 2, 3)},
		{"a trunk of 1 and an access port of 2", trunk(1, 1, 2, 3), access(2)},
		{"a trunk of 3 and an access port of 1", trunk(3, 1, 2, 3), access(1)},
		{"an access port of 3 and a trunk of 2", access(3), trunk(2, 1, 2, 3)},
		{"an access port of 2 and a trunk of 1", access(2), trunk(1, 1, 2, 3)},
	} {
		for hello := 1; hello <= 2; hello++ {
			// Which of both tells, and which is silent as its port is a root port, hangs on the priorities.
			for _, priority := range []int{0, 8, 15} {
				l := boxes(2)
				l[0].Priority = priority
				for at, p := range []bridge.Port{x.p, x.q} {
					l[at].Vlans, l[at].Times.Hello = []int{1, 2, 3}, hello
					l[at].Ports = []bridge.Port{p, edge(1), edge(2), edge(3)}
				}
				// With other priorities a port that is not blocked may be Disputed, and so not forward either.
				disagree(t, x.name, l, priority == 8, met)
			}
		}
	}
	if met[true] < 500 || met[false] < 500 {
		t.Error("met", met)
	}
}

// disagree has two bridges exchange what they tell, and then no more.
func disagree(t *testing.T, name string, l []bridge.Config, opens bool, met map[bool]int) {
	t.Helper()
	h := &heardOf{n: made(t, l...), l: l, times: [2]map[int]int{{}, {}}}
	do(t, h.n, link(0, 0, 1, 0))
	on(t, h.n)
	for second := range 60 {
		for a := range 2 {
			h.tick(t, a)
			h.check(t, name, opens && second > 45, met)
			h.bring(t)
			h.check(t, name, opens && second > 45, met)
		}
		h.checkStays(t, name)
	}
	afterLast(t, name, h, opens, met)
}

// afterLast cuts the link: three Hello times later nothing is blocked any more.
func afterLast(t *testing.T, name string, h *heardOf, opens bool, met map[bool]int) {
	t.Helper()
	do(t, h.n, cut(0, 0))
	for range 3*h.l[0].Times.Hello + 1 {
		h.tick(t, 0)
		h.tick(t, 1)
		h.check(t, name, opens, met)
	}
	for a := range 2 {
		for vlan := 1; vlan <= 3; vlan++ {
			if h.blocked(a, vlan) {
				t.Error(name, "still blocked", a, vlan)
			}
		}
	}
}

// unreadable tells by the layers below whether bytes are bad at a port.
func unreadable(set vlanport.Port, s string) bool {
	f, e := frame.Parse(s)
	if e != api.OK {
		return true
	}
	_, in := vlanport.In(set, f)
	inner, _ := llc.Inner(f)
	switch llc.Kind(f) {
	case 1:
		_, e := bpdu.Parse(inner)
		return e != api.OK
	case 2:
		_, _, e := sstp.Parse(inner)
		return in != api.OK || e != api.OK
	case 3:
		return false
	}
	return in != api.OK
}

// P0.4: what can't be read is counted, and nothing else comes of it, now or later; of hosts, and over links.
func TestUnreadable(t *testing.T) {
	r := rand.New(rand.NewSource(4))
	for _, shape := range []string{"two in a row", "two, doubly", "three in a row", "three in a ring"} {
		cables := shapes[shape]
		l := agreed(r, cables)
		fresh := func() *Net {
			n := made(t, l...)
			for _, c := range cables {
				do(t, n, link(c.x.bridge, c.x.port, c.y.bridge, c.y.port))
			}
			on(t, n)
			settle(t, n, 20)
			return n
		}
		n, twin := fresh(), fresh()
		told := 0
		for range 400 {
			a := r.Intn(len(l))
			p := r.Intn(len(l[a].Ports))
			s := spoilt(t, r)
			if !unreadable(l[a].Ports[p].Set, s) {
				continue
			}
			told++
			good, bad := n.Bridge(a).Count()
			if n.linked(end{a, p}) {
				// As no bridge sends such, it is laid on the way.
				n.way = append(n.way, carried{end{a, p}, s})
				checkGiven(t, shape, do(t, n, carries(doBring, -1)))
			} else {
				checkGiven(t, shape, do(t, n, from(a, p, s)))
			}
			if g, b := n.Bridge(a).Count(); g != good || b != bad+1 {
				t.Fatalf("%s: %q: %d good, %d bad, were %d, %d", shape, s, g, b, good, bad)
			}
			checkNumbers(t, shape, n, 0, 0)
		}
		if told < 100 {
			t.Error(shape, "only", told)
		}
		checkAlike(t, n, twin, 2)
	}
}

// spoilt are bytes at random of which most can't be read.
func spoilt(t *testing.T, r *rand.Rand) string {
	t.Helper()
	b := told()
	s := []string{ieee(t, station(1), b), sstpOf(t, station(1), b, 1+r.Intn(3)), all(t, "0 x"), tagged(t, station(1), everybody, "0 x", 5+r.Intn(90))}[r.Intn(4)]
	at := r.Intn(len(s))
	switch r.Intn(4) {
	case 0:
		return s[:at]
	case 1:
		return s[:at] + string([]byte{byte(r.Intn(256))}) + s[at+1:]
	case 2:
		junk := make([]byte, r.Intn(70))
		r.Read(junk)
		return string(junk)
	}
	return s
}

// P0.5: a bridge alone lets each frame out just once, and where it should.
func TestAlone(t *testing.T) {
	r := rand.New(rand.NewSource(5))
	for range 30 {
		c := box(0)
		c.Vlans, c.Ports = some(r, 1+r.Intn(4), 4), nil
		for range 2 + r.Intn(8) {
			p := access(1 + r.Intn(4))
			if r.Intn(2) == 0 {
				p = trunk(1+r.Intn(4), some(r, r.Intn(5), 4)...)
			}
			c.Ports = append(c.Ports, p)
		}
		n := made(t, c)
		on(t, n)
		settle(t, n, 3)
		where := map[fdb.Entry]int{} // by VLANs and addresses
		for range 200 {
			at := r.Intn(len(c.Ports))
			f := api.Frame{Dst: station(r.Intn(5)), Src: station(r.Intn(5)), Type: hostType, Payload: "hi"}
			if r.Intn(3) == 0 {
				f.Dst = everybody
			}
			if r.Intn(2) == 0 {
				f.Tagged, f.Vlan, f.Priority = true, r.Intn(6), r.Intn(8)
			}
			checkGiven(t, "alone", do(t, n, from(0, at, printed(t, f))), alone(t, c, where, at, f)...)
			if t.Failed() {
				t.Fatalf("%+v: at %d: %+v", c, at, f)
			}
		}
		checkNumbers(t, "alone", n, 0, 0)
	}
}

// alone tells where a frame should go out of a bridge whose ports all forward; where is what that bridge learned so far.
func alone(t *testing.T, c bridge.Config, where map[fdb.Entry]int, at int, f api.Frame) []Given {
	t.Helper()
	vlan, e := vlanport.In(c.Ports[at].Set, f)
	if e != api.OK || !slices.Contains(c.Vlans, vlan) || !vlanport.Has(c.Ports[at].Set, vlan) {
		return nil
	}
	where[fdb.Entry{Vlan: vlan, Mac: f.Src}] = at
	home, known := where[fdb.Entry{Vlan: vlan, Mac: f.Dst}]
	var out []Given
	for p := range c.Ports {
		if p == at || known && p != home || !vlanport.Has(c.Ports[p].Set, vlan) {
			continue
		}
		g, e := vlanport.Out(c.Ports[p].Set, f, vlan)
		if e != api.OK {
			t.Fatal(e)
		}
		out = append(out, given(0, p, printed(t, g)))
	}
	return out
}

// P0.6, rule 4: the same acts on the same networks give out the same, whatever other networks did between.
func TestSameAgain(t *testing.T) {
	acts := func(seed int64, between func()) []any {
		r := rand.New(rand.NewSource(seed))
		l := []bridge.Config{mixed(r, 0), mixed(r, 1), mixed(r, 2)}
		n := made(t, l...)
		var answers []any
		for range 150 {
			out, e := n.Do(mixedAct(t, r, l, true))
			between()
			answers = append(answers, out, e, n.Way(), n.Lost())
		}
		return append(answers, n)
	}
	for seed := range int64(5) {
		first := acts(seed, func() {})
		again := made(t, boxes(2)...)
		on(t, again)
		second := acts(seed, func() { settle(t, again, 1) })
		if !reflect.DeepEqual(first, second) {
			t.Error(seed)
		}
	}
}

// Rule 5: no call panics, whatever numbers and texts it is handed.
func TestWhatever(t *testing.T) {
	r := rand.New(rand.NewSource(5))
	numbers := []int{math.MinInt, math.MinInt + 1, -1, 0, 1, 2, 3, 4, 5, 6, 7, 8, 16, 200, 1 << 32, math.MaxInt}
	number := func() int {
		if r.Intn(3) > 0 {
			return r.Intn(3)
		}
		return numbers[r.Intn(len(numbers))]
	}
	n := linked(t, 3, link(0, 0, 1, 1))
	for range 20000 {
		junk := make([]byte, r.Intn(40))
		r.Read(junk)
		n.Do(Act{Kind: numbers[r.Intn(len(numbers))], A: number(), P: number(), B: number(), Q: number(), N: numbers[r.Intn(len(numbers))], On: r.Intn(2) == 0, Bytes: string(junk)})
		n.Bridge(number())
		if n.Way() < 0 || n.Way() > 200 || n.Lost() < 0 {
			t.Fatal(n.Way(), n.Lost())
		}
	}
}
