package mismatch

import (
	"math"
	"math/rand"
	"slices"
	"testing"

	"treebridge/api"
	"treebridge/vlanport"
)

const lastTime = 1099511627776 // 2^40, told by hand

// far are numbers far out of every range, those among them that a narrower number would take for one within.
var far = []int{
	-2, -4094, -4095, -65535, -65536, -1<<32 + 1, -1 << 32, -1 << 40, -1<<40 + 1, -1 << 60, math.MinInt, math.MinInt + 1, math.MinInt + 2,
	1<<41 + 1, 1<<42 - 1, 1 << 60, 1<<60 + 1, math.MaxInt - 1, math.MaxInt,
}

// noVlans are numbers of none, beside those that are far.
var noVlans = append([]int{-1, 0, 4095, 4096, 1<<16 + 1, 1<<32 + 1}, far...)

// noTimes are numbers of none, beside those that are far.
var noTimes = append([]int{-1, lastTime + 1, lastTime + 2}, far...)

// noHellos are numbers of none, beside those that are far.
var noHellos = append([]int{-1, 0, 11, 12, 255, 257, 258, 1<<16 + 2, 1<<32 + 1, 1<<32 + 2}, far...)

func access(native int) vlanport.Port { return vlanport.Port{Native: native} }

func trunk(native int, allowed ...int) vlanport.Port {
	return vlanport.Port{Trunk: true, Native: native, Allowed: allowed}
}

// some answers a trunk's set-up of some VLANs, new memory each time.
func some() vlanport.Port { return trunk(1, 1, 2, 3, 4094) }

func count(n, from int) []int {
	l := make([]int, n)
	for at := range l {
		l[at] = from + at
	}
	return l
}

// wrongPorts are no set-ups.
func wrongPorts() []vlanport.Port {
	return []vlanport.Port{
		{}, access(0), access(-1), access(4095), access(math.MinInt), access(math.MaxInt),
		{Native: 1, Allowed: []int{1}}, {Native: 1, Allowed: []int{2, 3}},
		trunk(0), trunk(0, 1), trunk(-1, 1), trunk(4095, 1),
		trunk(1, 0), trunk(1, -1, 2), trunk(1, 4095), trunk(1, 2, 2), trunk(1, 2, 1), trunk(1, 1, 3, 2),
		trunk(1, count(17, 1)...), trunk(1, count(4094, 1)...),
	}
}

func guard(t *testing.T, p vlanport.Port, hello int) *Guard {
	t.Helper()
	g, e := New(p, hello)
	if g == nil || e != api.OK {
		t.Fatalf("New(%v, %d): %v %v", p, hello, g, e)
	}
	return g
}

// hear lets g hear what it must be able to.
func hear(t *testing.T, g *Guard, received, told, now int) {
	t.Helper()
	if e := g.Hear(received, told, now); e != api.OK {
		t.Fatalf("Hear(%d, %d, %d): %v", received, told, now, e)
	}
}

// blocks asks that g blocks just these VLANs at now.
func blocks(t *testing.T, g *Guard, now int, want ...int) {
	t.Helper()
	if l := g.List(now); !slices.Equal(l, want) {
		t.Errorf("at %d: blocks %v, want %v", now, l, want)
	}
	for _, vlan := range slices.Concat(want, []int{-1, 0, 1, 2, 3, 4, 5, 6, 7, 4093, 4094, 4095, math.MinInt, math.MaxInt}) {
		if g.Blocked(vlan, now) != slices.Contains(want, vlan) {
			t.Errorf("at %d: Blocked of %d, want %v", now, vlan, want)
		}
	}
}

// heardFirst asks how often g heard something, and what first; 0, 0, 0 of nothing.
func heardFirst(t *testing.T, g *Guard, often, received, told int) {
	t.Helper()
	if n := g.Heard(); n != often {
		t.Errorf("heard %d, want %d", n, often)
	}
	if r, s, ok := g.First(); r != received || s != told || ok != (often > 0) {
		t.Errorf("first %d %d %v, want %d %d", r, s, ok, received, told)
	}
}

// P9.1: of a wrong set-up there is no guard, whatever the Hello time.
func TestNewOfWrongPorts(t *testing.T) {
	for _, p := range wrongPorts() {
		for _, hello := range slices.Concat(noHellos, count(10, 1)) {
			if g, e := New(p, hello); g != nil || e != api.ErrForm {
				t.Errorf("New(%.200v, %d): %v %v", p, hello, g, e)
			}
		}
	}
}

// P9.1: of a right set-up there is one with a Hello time of 1 to 10.
func TestNewOfHellos(t *testing.T) {
	for _, p := range []vlanport.Port{access(1), access(4094), {Native: 7, Allowed: []int{}}, trunk(1), some(), trunk(5, count(16, 4079)...)} {
		for _, hello := range slices.Concat(noHellos, count(70000, -35000)) {
			g, e := New(p, hello)
			want := api.ErrRange
			if hello >= 1 && hello <= 10 {
				want = api.OK
			}
			if (g != nil) != (want == api.OK) || e != want {
				t.Fatalf("New(%v, %d): %v %v", p, hello, g, e)
			}
		}
	}
}

// P9.1, P9.2: a new guard heard nothing, and is none but its own.
func TestNewHeardNothing(t *testing.T) {
	for hello := 1; hello <= 10; hello++ {
		for _, p := range []vlanport.Port{access(1), access(2), trunk(1), some()} {
			g, other := guard(t, p, hello), guard(t, some(), hello)
			hear(t, other, 1, 2, 0)
			heardFirst(t, g, 0, 0, 0)
			for _, now := range []int{0, 1, 5, 29, lastTime} {
				blocks(t, g, now)
			}
			heardFirst(t, g, 0, 0, 0)
			// The other one's time didn't go on.
			blocks(t, other, 3*hello-1, 1, 2)
			heardFirst(t, other, 1, 1, 2)
		}
	}
}

// P9.1: its time is 0 at first, so what is heard at 0 holds from there.
func TestTimeBegins(t *testing.T) {
	g := guard(t, some(), 1)
	hear(t, g, 1, 2, 0)
	for now := range 3 {
		blocks(t, g, now, 1, 2)
	}
	blocks(t, g, 3)
}

// told is what a guard hears, and what it answers.
type told struct {
	received, told, now int
	want                api.Errno
}

// tellings are told to guards of some(): within the ranges, at their edges, and beyond, one by one and together.
func tellings() []told {
	l := []told{
		{0, 1, 20, api.ErrRange}, {1, 0, 20, api.ErrRange}, {0, 0, 20, api.ErrRange}, {-1, -1, 20, api.ErrRange},
		{1, 1, 20, api.OK}, {1, 2, 20, api.OK}, {4094, 1, 20, api.OK}, {1, 4094, 20, api.OK}, {4094, 4094, 20, api.OK},
		{4095, 1, 20, api.ErrRange}, {1, 4095, 20, api.ErrRange}, {4095, 4095, 20, api.ErrRange}, {4094, 4095, 20, api.ErrRange},
		{1, 2, -1, api.ErrRange}, {1, 1, -1, api.ErrRange}, {1, 2, lastTime - 1, api.OK}, {1, 2, lastTime, api.OK}, {1, 2, lastTime + 1, api.ErrRange}, {1, 1, lastTime + 1, api.ErrRange},
		{4, 1, 20, api.ErrNone}, {4, 4, 20, api.ErrNone}, {5, 4, 20, api.ErrNone}, {4093, 4094, 20, api.ErrNone}, {4093, 1, 0, api.ErrNone}, {257, 1, lastTime, api.ErrNone},
		{4, 0, 20, api.ErrRange}, {4, 4095, 20, api.ErrRange}, {4, 1, -1, api.ErrRange}, {4, 4, lastTime + 1, api.ErrRange}, {0, 4095, -1, api.ErrRange},
	}
	for _, n := range noVlans {
		l = append(l, told{n, 1, 20, api.ErrRange}, told{1, n, 20, api.ErrRange}, told{n, n, 20, api.ErrRange}, told{4, n, 20, api.ErrRange})
	}
	for _, n := range noTimes {
		l = append(l, told{1, 2, n, api.ErrRange}, told{2, 2, n, api.ErrRange}, told{4, 1, n, api.ErrRange}, told{0, n, n, api.ErrRange})
	}
	return l
}

// P9.1: what is out of range comes first, then a VLAN that doesn't go out at the port.
func TestHearRight(t *testing.T) {
	for i, x := range tellings() {
		if e := guard(t, some(), 2).Hear(x.received, x.told, x.now); e != x.want {
			t.Errorf("%d %v: %v", i, x, e)
		}
	}
}

// P9.1, P9.2: what is refused counts for nothing: nothing is blocked or counted, and time stands.
func TestRefusedCountsForNothing(t *testing.T) {
	for i, x := range tellings() {
		if x.want == api.OK {
			continue
		}
		g := guard(t, some(), 2)
		g.Hear(x.received, x.told, x.now)
		blocks(t, g, 0)
		heardFirst(t, g, 0, 0, 0)
		hear(t, g, 2, 3, 10)
		for range 3 {
			if e := g.Hear(x.received, x.told, x.now); e != x.want {
				t.Errorf("%d %v: %v", i, x, e)
			}
		}
		blocks(t, g, 0, 2, 3)
		heardFirst(t, g, 1, 2, 3)
		hear(t, g, 1, 1, 0)
		blocks(t, g, 15, 2, 3)
		blocks(t, g, 16)
		heardFirst(t, g, 1, 2, 3)
	}
}

// P9.1: each VLAN that is received, and each that is told, by itself.
func TestHearOfEveryVlan(t *testing.T) {
	for vlan := -70; vlan <= 4200; vlan++ {
		right := vlan >= 1 && vlan <= 4094
		want := api.ErrRange
		if slices.Contains([]int{1, 2, 3, 4094}, vlan) {
			want = api.OK
		} else if right {
			want = api.ErrNone
		}
		for _, other := range []int{1, 4094} {
			g := guard(t, some(), 2)
			if e := g.Hear(vlan, other, 1); e != want {
				t.Fatalf("received %d: %v", vlan, e)
			}
			g = guard(t, some(), 2)
			if e := g.Hear(other, vlan, 1); (e == api.OK) != right || !right && e != api.ErrRange {
				t.Fatalf("told %d: %v", vlan, e)
			}
		}
	}
}

// P9.1: at a trunk both are blocked, if they aren't the same, as far as they go out there.
func TestTrunk(t *testing.T) {
	for _, x := range []struct {
		port           vlanport.Port
		received, told int
		want           []int
	}{
		{some(), 1, 2, []int{1, 2}}, {some(), 2, 1, []int{1, 2}}, {some(), 4094, 1, []int{1, 4094}}, {some(), 3, 2, []int{2, 3}},
		{some(), 1, 4, []int{1}}, {some(), 2, 4, []int{2}}, {some(), 4094, 4093, []int{4094}}, {some(), 3, 4093, []int{3}}, {some(), 2, 258, []int{2}},
		{some(), 1, 1, nil}, {some(), 2, 2, nil}, {some(), 4094, 4094, nil},
		{trunk(7, 1, 2), 1, 7, []int{1}}, {trunk(7, 1, 2), 2, 1, []int{1, 2}}, {trunk(7, 1, 2), 2, 2, nil},
		{trunk(7, 7), 7, 1, []int{7}}, {trunk(7, 7), 7, 7, nil}, {trunk(7, 6), 6, 7, []int{6}}, {trunk(7, 6), 6, 6, nil},
		{trunk(5, count(16, 1)...), 16, 1, []int{1, 16}}, {trunk(5, count(16, 1)...), 16, 17, []int{16}},
	} {
		g := guard(t, x.port, 3)
		hear(t, g, x.received, x.told, 10)
		for _, now := range []int{10, 11, 18} {
			blocks(t, g, now, x.want...)
		}
		if len(x.want) > 0 {
			heardFirst(t, g, 1, x.received, x.told)
		} else {
			heardFirst(t, g, 0, 0, 0)
		}
		blocks(t, g, 19)
	}
}

// P9.1: at a trunk nothing is heard of a VLAN that isn't allowed, of Native neither.
func TestTrunkOfOthers(t *testing.T) {
	for _, p := range []vlanport.Port{trunk(7), trunk(7, 1, 2), {Trunk: true, Native: 7, Allowed: []int{}}} {
		g := guard(t, p, 2)
		for told := 1; told <= 10; told++ {
			for _, received := range []int{3, 7, 4094} {
				if e := g.Hear(received, told, told); e != api.ErrNone {
					t.Errorf("%v, Hear(%d, %d): %v", p, received, told, e)
				}
			}
		}
		blocks(t, g, 0)
		heardFirst(t, g, 0, 0, 0)
	}
}

// P9.1: what the same VLAN was told of stays as it is, and isn't counted; time goes on by it.
func TestTrunkOfTheSame(t *testing.T) {
	g := guard(t, some(), 2)
	hear(t, g, 2, 2, 5)
	heardFirst(t, g, 0, 0, 0)
	hear(t, g, 1, 2, 0) // counts as 5
	for _, vlan := range []int{1, 2, 3, 4094} {
		hear(t, g, vlan, vlan, 10)
	}
	blocks(t, g, 10, 1, 2)
	heardFirst(t, g, 1, 1, 2)
	hear(t, g, 3, 3, 11)
	blocks(t, g, 0)
}

// P9.1: an access port blocks Native, whatever it is told.
func TestAccess(t *testing.T) {
	for _, native := range []int{1, 2, 7, 256, 4094} {
		for _, p := range []vlanport.Port{access(native), {Native: native, Allowed: []int{}}} {
			for _, told := range []int{1, 2, 3, 7, 256, 4093, 4094} {
				g := guard(t, p, 2)
				hear(t, g, native, told, 10)
				blocks(t, g, 10, native)
				blocks(t, g, 15, native)
				heardFirst(t, g, 1, native, told)
				blocks(t, g, 16)
			}
			for vlan := 1; vlan <= 4094; vlan++ {
				g := guard(t, p, 2)
				hear(t, g, native, vlan, 10)
				if l := g.List(10); !slices.Equal(l, []int{native}) {
					t.Fatalf("access %d, told %d: %v", native, vlan, l)
				}
			}
		}
	}
}

// P9.1: an access port refuses what came in of another VLAN, and of numbers that are none.
func TestAccessOfOthers(t *testing.T) {
	for vlan := -5; vlan <= 4100; vlan++ {
		for _, told := range []int{vlan, 7} {
			g := guard(t, access(7), 2)
			want := api.ErrNone
			if vlan == 7 {
				want = api.OK
			} else if vlan < 1 || vlan > 4094 {
				want = api.ErrRange
			}
			if e := g.Hear(vlan, told, 1); e != want || len(g.List(0)) != g.Heard() || (g.Heard() == 1) != (want == api.OK) {
				t.Fatalf("Hear(%d, %d): %v, heard %d", vlan, told, e, g.Heard())
			}
		}
	}
	g := guard(t, access(7), 2)
	for _, n := range noVlans {
		if e := g.Hear(7, n, 1); e != api.ErrRange {
			t.Errorf("told %d: %v", n, e)
		}
	}
	for _, n := range noTimes {
		if e := g.Hear(7, 7, n); e != api.ErrRange {
			t.Errorf("at %d: %v", n, e)
		}
	}
	blocks(t, g, 0)
	heardFirst(t, g, 0, 0, 0)
}

// P9.3: the last tick at which a VLAN is blocked, and the first at which it is free, with each Hello time, near to each end of time.
func TestFreeBehindThreeHellos(t *testing.T) {
	for hello := 1; hello <= 10; hello++ {
		for _, from := range []int{0, 1, 10, 1<<31 - 2, 1 << 32, lastTime - 31, lastTime - 3*hello - 1, lastTime - 3*hello} {
			g := guard(t, some(), hello)
			hear(t, g, 1, 2, from)
			for now := from; now < from+3*hello; now++ {
				blocks(t, g, now, 1, 2)
			}
			blocks(t, g, from+3*hello)
			a := guard(t, access(5), hello)
			hear(t, a, 5, 5, from)
			blocks(t, a, from+3*hello-1, 5)
			blocks(t, a, from+3*hello)
		}
	}
}

// P9.3: what isn't over at the last time stays.
func TestBlockedAtTheLastTime(t *testing.T) {
	for hello := 1; hello <= 10; hello++ {
		for _, from := range []int{lastTime - 3*hello + 1, lastTime - 1, lastTime} {
			g := guard(t, some(), hello)
			hear(t, g, 1, 2, from)
			blocks(t, g, lastTime, 1, 2)
			for _, now := range noTimes {
				g.Blocked(1, now)
				g.List(now)
			}
			blocks(t, g, 0, 1, 2)
		}
	}
}

// P9.1: by the chapter's example.
func TestExample(t *testing.T) {
	g := guard(t, access(5), 2)
	hear(t, g, 5, 5, 10)
	if !g.Blocked(5, 15) || g.Blocked(5, 16) {
		t.Error("blocked till 15, free at 16")
	}
}

// P9.1, P9.3: a VLAN that is told again is blocked longer, by itself; one that was free is blocked anew.
func TestToldAgain(t *testing.T) {
	g := guard(t, some(), 2)
	hear(t, g, 1, 2, 10)   // until 16
	hear(t, g, 2, 3, 12)   // until 18
	hear(t, g, 4094, 9, 9) // counts as 12
	blocks(t, g, 15, 1, 2, 3, 4094)
	blocks(t, g, 16, 2, 3, 4094)
	hear(t, g, 3, 4, 17) // until 23
	blocks(t, g, 17, 2, 3, 4094)
	blocks(t, g, 18, 3)
	blocks(t, g, 22, 3)
	heardFirst(t, g, 4, 1, 2)
	blocks(t, g, 23)
	hear(t, g, 1, 3, 23)
	blocks(t, g, 28, 1, 3)
	blocks(t, g, 29)
	heardFirst(t, g, 5, 1, 2)
}

// P9.1, P9.3: told again at the same time, or at an earlier one, it is as it was.
func TestToldAgainAtTheSameTime(t *testing.T) {
	for _, again := range []int{0, 4, 9, 10} {
		g := guard(t, some(), 2)
		hear(t, g, 1, 2, 10)
		hear(t, g, 1, 2, again)
		hear(t, g, 2, 1, again)
		heardFirst(t, g, 3, 1, 2)
		blocks(t, g, 15, 1, 2)
		blocks(t, g, 16)
	}
}

// P9.3: told at the first tick at which it is free, or at the last at which it was blocked, a VLAN is blocked on.
func TestToldAgainAtTheEdge(t *testing.T) {
	for hello := 1; hello <= 10; hello++ {
		for _, p := range []vlanport.Port{access(5), trunk(1, 5)} {
			for _, step := range []int{1, 3*hello - 1, 3 * hello, 3*hello + 1} {
				g := guard(t, p, hello)
				for n := range 5 {
					hear(t, g, 5, 6, n*step)
				}
				blocks(t, g, 4*step+3*hello-1, 5)
				blocks(t, g, 4*step+3*hello)
				heardFirst(t, g, 5, 5, 6)
			}
		}
	}
}

// P9.1: time never goes back behind what Hear told: an earlier time counts as that.
func TestTimeByHear(t *testing.T) {
	for _, earlier := range []int{0, 1, 11, 15, 16} {
		g := guard(t, some(), 2)
		hear(t, g, 1, 2, 10)
		hear(t, g, 3, 9, 16)
		blocks(t, g, earlier, 3)
		g = guard(t, some(), 2)
		hear(t, g, 1, 1, 16) // heard, though nothing comes of it
		hear(t, g, 1, 2, earlier)
		blocks(t, g, 21, 1, 2)
		blocks(t, g, 22)
	}
}

// P9.1: Blocked lets time go on, whatever it answers.
func TestTimeByBlocked(t *testing.T) {
	for _, vlan := range []int{1, 2, 3, 4, 4094, 0, -1, 4095, math.MinInt, math.MaxInt} {
		g := guard(t, some(), 2)
		hear(t, g, 1, 2, 10)
		g.Blocked(vlan, 15)
		if !g.Blocked(1, 0) || !g.Blocked(2, 15) {
			t.Errorf("asked of %d at 15: free", vlan)
		}
		if g.Blocked(vlan, 16) || g.Blocked(1, 0) || g.Blocked(2, 15) {
			t.Errorf("asked of %d at 16: blocked", vlan)
		}
		blocks(t, g, 10)
		hear(t, g, 2, 3, 11) // counts as 16
		blocks(t, g, 21, 2, 3)
		blocks(t, g, 22)
	}
}

// P9.1: List lets time go on, also where it answers none.
func TestTimeByList(t *testing.T) {
	g := guard(t, some(), 2)
	if l := g.List(7); len(l) != 0 {
		t.Errorf("new: %v", l)
	}
	hear(t, g, 1, 2, 3) // counts as 7
	for _, now := range []int{12, 0, 7} {
		if l := g.List(now); !slices.Equal(l, []int{1, 2}) {
			t.Errorf("at %d: %v", now, l)
		}
	}
	for _, now := range []int{13, 0, 12} {
		if l := g.List(now); len(l) != 0 {
			t.Errorf("at %d: %v", now, l)
		}
	}
	if g.Blocked(1, 12) || g.Blocked(2, 0) {
		t.Error("time went back")
	}
}

// P9.1: at a number that is no time nothing is blocked, and time stands.
func TestNoTimes(t *testing.T) {
	for _, p := range []vlanport.Port{some(), access(1)} {
		for _, now := range noTimes {
			g := guard(t, p, 2)
			hear(t, g, 1, 2, 10)
			was := g.List(10)
			if g.Blocked(1, now) || g.Blocked(2, now) || g.Blocked(3, now) {
				t.Errorf("%v: blocked at %d", p, now)
			}
			if l := g.List(now); len(l) != 0 {
				t.Errorf("%v: at %d: %v", p, now, l)
			}
			blocks(t, g, 0, was...)
			blocks(t, g, 15, was...)
			blocks(t, g, 16)
			heardFirst(t, g, 1, 1, 2)
		}
	}
}

// P9.1: all VLANs are listed, rising, in whatever order they were told.
func TestListRises(t *testing.T) {
	vlans := []int{1, 2, 9, 10, 99, 100, 255, 256, 257, 999, 1000, 1024, 2048, 4092, 4093, 4094}
	r := rand.New(rand.NewSource(9))
	for range 200 {
		g := guard(t, trunk(3, vlans...), 1)
		order := r.Perm(len(vlans))
		for _, at := range order {
			hear(t, g, vlans[at], 3, 5)
		}
		blocks(t, g, 7, vlans...)
		blocks(t, g, 8)
		heardFirst(t, g, 16, vlans[order[0]], 3)
	}
}

// P9.2: each time that something is or stays inconsistent counts once, be it one VLAN or two; asking counts nothing.
func TestHeard(t *testing.T) {
	for _, x := range []struct {
		port           vlanport.Port
		received, told int
		each           int
	}{{some(), 1, 2, 1}, {some(), 1, 9, 1}, {some(), 2, 2, 0}, {access(5), 5, 5, 1}, {access(5), 5, 6, 1}} {
		g := guard(t, x.port, 1)
		for n := range 300 {
			hear(t, g, x.received, x.told, n/2)
			g.Blocked(x.received, n/2)
			g.List(n / 2)
			g.First()
			if got := g.Heard(); got != x.each*(n+1) {
				t.Fatalf("%v: heard %d behind %d", x, got, n+1)
			}
		}
	}
}

// P9.2: First keeps what was heard first, though its VLANs are free again and others were told; as it was told, a VLAN that doesn't go out there too.
func TestFirst(t *testing.T) {
	for _, x := range []struct {
		port           vlanport.Port
		received, told int
	}{{some(), 1, 2}, {some(), 2, 1}, {some(), 3, 9}, {some(), 4094, 4093}, {access(5), 5, 5}, {access(5), 5, 1}, {access(4094), 4094, 4094}} {
		g := guard(t, x.port, 1)
		if e := g.Hear(4, 5, 0); e != api.ErrNone {
			t.Errorf("Hear: %v", e)
		}
		if e := g.Hear(x.received, 0, 0); e != api.ErrRange {
			t.Errorf("Hear: %v", e)
		}
		if x.port.Trunk {
			hear(t, g, x.received, x.received, 0)
		}
		heardFirst(t, g, 0, 0, 0)
		hear(t, g, x.received, x.told, 4)
		heardFirst(t, g, 1, x.received, x.told)
		hear(t, g, x.received, 7, 5)
		heardFirst(t, g, 2, x.received, x.told)
		blocks(t, g, 100)
		hear(t, g, x.received, 8, 101)
		heardFirst(t, g, 3, x.received, x.told)
	}
}

// P9.1: the set-up that is handed in isn't kept, nor changed, its spare room neither.
func TestHandedIn(t *testing.T) {
	whole := []int{1, 2, 3, 7, 8}
	p := trunk(1, whole[:3]...)
	g := guard(t, p, 2)
	for vlan := 1; vlan <= 8; vlan++ {
		g.Hear(vlan, vlan%8+1, 10)
		g.Blocked(vlan, 10)
	}
	g.List(10)
	if !slices.Equal(whole, []int{1, 2, 3, 7, 8}) {
		t.Errorf("now %v", whole)
	}
	copy(whole, []int{5, 6, 7, 8, 9})
	hear(t, g, 2, 3, 20)
	blocks(t, g, 20, 2, 3)
	hear(t, g, 1, 7, 20)
	blocks(t, g, 20, 1, 2, 3)
	if e := g.Hear(5, 1, 20); e != api.ErrNone {
		t.Errorf("5 goes out: %v", e)
	}
}

// P9.1: each list is memory of its own.
func TestListIsNewMemory(t *testing.T) {
	g := guard(t, some(), 2)
	hear(t, g, 1, 2, 10)
	first, second := g.List(10), g.List(10)
	room := first[:cap(first)]
	for at := range room {
		room[at] = -1
	}
	if !slices.Equal(second, []int{1, 2}) {
		t.Errorf("second %v", second)
	}
	blocks(t, g, 10, 1, 2)
}

// history is a guard that keeps all that it heard, and works out each answer from that alone.
type history struct {
	port  vlanport.Port
	hello int
	now   int
	all   []told // with the times that they counted as
}

func (h *history) goesOut(vlan int) bool {
	return h.port.Trunk && slices.Contains(h.port.Allowed, vlan) || !h.port.Trunk && vlan == h.port.Native
}

func (h *history) hear(received, other, now int) api.Errno {
	for _, vlan := range []int{received, other} {
		if vlan < 1 || vlan > 4094 {
			return api.ErrRange
		}
	}
	if now < 0 || now > lastTime {
		return api.ErrRange
	}
	if !h.goesOut(received) {
		return api.ErrNone
	}
	if now > h.now {
		h.now = now
	}
	if !h.port.Trunk || received != other {
		h.all = append(h.all, told{received: received, told: other, now: h.now})
	}
	return api.OK
}

func (h *history) list(now int) []int {
	if now < 0 || now > lastTime {
		return nil
	}
	if now > h.now {
		h.now = now
	}
	var l []int
	for vlan := 1; vlan <= 4094; vlan++ {
		if h.goesOut(vlan) && slices.ContainsFunc(h.all, func(x told) bool {
			return (x.received == vlan || x.told == vlan) && h.now-x.now < 3*h.hello
		}) {
			l = append(l, vlan)
		}
	}
	return l
}

// anyTime answers a time about now, and sometimes one that is none.
func anyTime(r *rand.Rand, now int) int {
	if r.Intn(8) == 0 {
		return []int{-1, 0, lastTime + 1, math.MinInt, math.MaxInt}[r.Intn(5)]
	}
	return now + r.Intn(9) - 4
}

// P9.1, P9.2, P9.3: whatever is told and asked, in whatever order, the answers are those that all that was heard asks for.
func TestAny(t *testing.T) {
	r := rand.New(rand.NewSource(1))
	vlans := []int{0, 1, 2, 3, 4, 5, 4094, 4095}
	blocked := 0
	for range 400 {
		p := []vlanport.Port{some(), access(2), trunk(3, 2, 5), trunk(1), trunk(2, 2)}[r.Intn(5)]
		hello := 1 + r.Intn(10)
		g, h := guard(t, p, hello), &history{port: p, hello: hello}
		if r.Intn(4) == 0 {
			g.List(lastTime - 40)
			h.list(lastTime - 40)
		}
		for range 120 {
			received, other, now := vlans[r.Intn(len(vlans))], vlans[r.Intn(len(vlans))], anyTime(r, h.now)
			switch r.Intn(3) {
			case 0:
				if e, want := g.Hear(received, other, now), h.hear(received, other, now); e != want {
					t.Fatalf("%v, Hear(%d, %d, %d): %v, want %v", p, received, other, now, e, want)
				}
			case 1:
				if got, want := g.Blocked(other, now), slices.Contains(h.list(now), other); got != want {
					t.Fatalf("%v, Blocked(%d, %d): %v", p, other, now, got)
				}
			case 2:
				got, want := g.List(now), h.list(now)
				if !slices.Equal(got, want) {
					t.Fatalf("%v, List(%d): %v, want %v", p, now, got, want)
				}
				blocked += len(got)
			}
			if len(h.all) > 0 {
				heardFirst(t, g, len(h.all), h.all[0].received, h.all[0].told)
			} else {
				heardFirst(t, g, 0, 0, 0)
			}
		}
	}
	if blocked < 3000 {
		t.Errorf("only %d were blocked", blocked)
	}
}
