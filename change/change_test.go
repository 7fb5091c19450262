package change

import (
	"math"
	"math/rand"
	"reflect"
	"slices"
	"strconv"
	"strings"
	"testing"

	"treebridge/api"
	"treebridge/info"
	"treebridge/state"
)

// The numbers are told by hand, not taken from the package.

// none is the number of no step.
const none = -1

// usual is a bridge of the times that are usual.
func usual() info.Bridge {
	return info.Bridge{Id: 9, Times: state.Times{Max: 20, Hello: 2, Delay: 15}}
}

func vec(root, cost, bridge, port uint64) api.Vector {
	return api.Vector{Root: root, Cost: cost, Bridge: bridge, Port: port}
}

// bare has no bool that is on, nothing else that is zero but its Role and Change, and no two numbers that are the same.
func bare(change, role int) state.Port {
	return state.Port{
		Id: 0x8001, Cost: 20000,
		Source: 3,
		Vector: vec(101, 102, 103, 104),
		Times:  state.Times{Age: 111, Max: 112, Hello: 113, Delay: 114},
		Offer:  vec(121, 122, 123, 124),
		Given:  state.Times{Age: 131, Max: 132, Hello: 133, Delay: 134},
		Role:   role, Selected: 41,
		Fd: 21, Rr: 22, Rb: 23, Tc: 24, Edge: 25, Md: 26, Info: 27, Hello: 28,
		TxCount: 29,
		Change:  change, Migrate: 32,
	}
}

// still is one of which no step applies; at 2 none of a role but 1 and 2 is.
func still(change, role int) state.Port {
	p := bare(change, role)
	p.Learn = change == 1 && role != 1 && role != 2
	return p
}

// among has p between two others that are still.
func among(p state.Port) []state.Port {
	first, last := still(1, 2), still(2, 2)
	first.Id, last.Id = 0x8002, 0x8003
	return []state.Port{first, p, last}
}

// edit changes ports as words tell: "+Learn" is on, "-Learn" is off, "Tc=3" is 3, of port 1, or of another one as in "2:-Learn".
func edit(l []state.Port, words string) []state.Port {
	out := slices.Clone(l)
	for _, word := range strings.Fields(words) {
		at := 1
		if place, rest, ok := strings.Cut(word, ":"); ok {
			at, word = number(place), rest
		}
		v := reflect.ValueOf(&out[at]).Elem()
		if name, n, ok := strings.Cut(word, "="); ok {
			v.FieldByName(name).SetInt(int64(number(n)))
			continue
		}
		v.FieldByName(word[1:]).SetBool(word[0] == '+')
	}
	return out
}

func number(s string) int {
	n, err := strconv.Atoi(s)
	if err != nil {
		panic(err)
	}
	return n
}

// stepped is l when port at did the step of that number.
func stepped(b info.Bridge, l []state.Port, at, step int) []state.Port {
	out := slices.Clone(l)
	if step == none {
		return out
	}
	p := &out[at]
	if (step == 1 || step == 5 || step == 7) && p.Tc == 0 {
		p.Tc = b.Times.Max + b.Times.Delay
		if p.SendRstp {
			p.Tc, p.NewInfo = b.Times.Hello+1, true
		}
	}
	if step == 1 || step == 5 || step == 6 {
		for other := range out {
			out[other].TcProp = out[other].TcProp || other != at
		}
	}
	if step == 0 || step == 3 || step == 4 {
		p.HeardTc, p.HeardTcn, p.HeardAck, p.TcProp = false, false, false, false
	}
	switch step {
	case 0, 4:
		p.Change = 1
	case 1:
		p.NewInfo, p.Change = true, 2
	case 2:
		p.Change, p.Flush, p.Tc, p.TcAck = 0, true, 0, false
	case 5, 6:
		p.HeardTc, p.HeardTcn = false, false
		p.TcAck = p.TcAck || p.Role == 2
	case 7:
		p.Flush, p.TcProp = true, false
	case 8:
		p.Tc, p.HeardAck = 0, false
	}
	return out
}

// asked is the number of the step that the chapter has the port do: all that each asks in one line, as the chapter has it.
func asked(p state.Port) int {
	of12 := p.Role == 1 || p.Role == 2
	told := p.HeardTc || p.HeardTcn || p.HeardAck || p.TcProp
	for step, asks := range []bool{
		p.Change == 0 && p.Learn && !p.Flush,
		p.Change == 1 && of12 && p.Forward && !p.Oper,
		p.Change == 1 && !of12 && !p.Learn && !p.Learning && !told,
		p.Change == 1 && told,
		p.Change == 2 && (!of12 || p.Oper),
		p.Change == 2 && p.HeardTcn,
		p.Change == 2 && p.HeardTc,
		p.Change == 2 && p.TcProp,
		p.Change == 2 && p.HeardAck,
	} {
		if asks {
			return step
		}
	}
	return none
}

func checkPorts(t *testing.T, name string, got, want []state.Port) {
	t.Helper()
	if len(got) != len(want) {
		t.Errorf("%s: %d ports, want %d", name, len(got), len(want))
		return
	}
	for at := range want {
		g, w := reflect.ValueOf(got[at]), reflect.ValueOf(want[at])
		for field := range g.NumField() {
			if !g.Field(field).Equal(w.Field(field)) {
				t.Errorf("%s: %s of port %d is %v, want %v", name, g.Type().Field(field).Name, at, g.Field(field), w.Field(field))
			}
		}
	}
}

// checkStep has port at step, which should be by the step of that number.
func checkStep(t *testing.T, name string, b info.Bridge, l []state.Port, at, step int) []state.Port {
	t.Helper()
	got, ok := Step(b, l, at)
	if ok != (step != none) {
		t.Errorf("%s: a step is %v, want %d", name, ok, step)
	}
	checkPorts(t, name, got, stepped(b, l, at, step))
	return got
}

// turn is what is turned about, and which step is then.
type turn struct {
	words string
	step  int
}

// P13.1: each step just at the edge of what it asks, and each of its conditions turned about.
func TestSteps(t *testing.T) {
	for _, x := range []struct {
		change, role int
		words        string
		step         int
		turns        []turn
	}{
		{0, 2, "+Learn", 0, []turn{
			{"-Learn", none}, {"+Flush", none}, {"-Learn +Flush", none}, {"-Learn +Learning", none}, {"-Learn +Forward +Forwarding", none},
			{"Role=0", 0}, {"Role=1", 0}, {"Role=3", 0}, {"Role=4", 0}, {"Role=9", 0}, {"+Oper", 0}, {"+Forward", 0}, {"+Learning", 0}, {"Tc=0", 0}, {"+TcAck", 0},
			{"+HeardTc", 0}, {"+HeardTcn", 0}, {"+HeardAck", 0}, {"+TcProp", 0}, {"+HeardTc +HeardTcn +HeardAck +TcProp", 0},
			{"+HeardTc +HeardTcn +HeardAck +TcProp +Flush", none}, {"+HeardTc +HeardTcn +HeardAck +TcProp -Learn", none},
		}},
		{1, 1, "+Forward", 1, []turn{
			{"-Forward", none}, {"-Forward +Forwarding", none}, {"-Forward +Learn +Learning", none}, {"+Oper", none}, {"+Admin", 1},
			{"Role=2", 1}, {"Role=0", 2}, {"Role=3", 2}, {"Role=4", 2}, {"Role=9", 2}, {"Role=-1", 2}, {"Role=0 +Learn", none}, {"Role=3 +Learn", none}, {"Role=4 +Learn", none},
			{"Selected=3", 1}, {"+Learn +Learning +Forwarding", 1}, {"+Flush", 1}, {"Tc=0", 1},
			{"+HeardTc", 1}, {"+HeardTcn", 1}, {"+HeardAck", 1}, {"+TcProp", 1}, {"+TcProp +Oper", 3}, {"+HeardTc -Forward", 3},
		}},
		{1, 2, "+Forward", 1, []turn{
			{"-Forward", none}, {"-Forward +Forwarding", none}, {"+Oper", none}, {"+Admin", 1}, {"Role=1", 1}, {"Role=3", 2}, {"Role=3 +Learn", none},
			{"Tc=0", 1}, {"Tc=0 +SendRstp", 1}, {"+NewInfo", 1}, {"+HeardTc", 1}, {"+HeardTc +Oper", 3}, {"+HeardAck -Forward", 3},
		}},
		{1, 3, "-Learn", 2, []turn{
			{"+Learn", none}, {"+Learning", none}, {"+Learn +Learning", none}, {"+Forward", 2}, {"+Forwarding", 2},
			{"Role=1", none}, {"Role=2", none}, {"Role=1 +Forward", 1}, {"Role=2 +Forward", 1}, {"Role=0", 2}, {"Role=4", 2}, {"Role=5", 2}, {"Role=-1", 2},
			{"+HeardTc", 3}, {"+HeardTcn", 3}, {"+HeardAck", 3}, {"+TcProp", 3}, {"+HeardTc +Learn", 3},
			{"+Oper", 2}, {"+Flush", 2}, {"+TcAck", 2}, {"Tc=0", 2}, {"Selected=1", 2},
		}},
		{1, 3, "+HeardTc", 3, []turn{{"-HeardTc", none}, {"-Learn", 3}, {"-Learn -HeardTc", 2}, {"+Learning", 3}, {"Role=2", 3}, {"Role=2 +Forward", 1}, {"Role=2 +Forward +Oper", 3}, {"+Flush", 3}}},
		{1, 3, "+HeardTcn", 3, []turn{{"-HeardTcn", none}, {"-Learn", 3}, {"-Learn -HeardTcn", 2}, {"+Learning", 3}, {"Role=2", 3}, {"Role=2 +Forward", 1}, {"Role=2 +Forward +Oper", 3}}},
		{1, 3, "+HeardAck", 3, []turn{{"-HeardAck", none}, {"-Learn", 3}, {"-Learn -HeardAck", 2}, {"+Learning", 3}, {"Role=1", 3}, {"Role=1 +Forward", 1}, {"Role=1 +Forward +Oper", 3}}},
		{1, 3, "+TcProp", 3, []turn{{"-TcProp", none}, {"-Learn", 3}, {"-Learn -TcProp", 2}, {"+Learning", 3}, {"Role=1", 3}, {"Role=1 +Forward", 1}, {"Role=1 +Forward +Oper", 3}}},
		{1, 2, "+Oper +HeardTc", 3, []turn{{"-HeardTc", none}, {"-Oper", 3}, {"-Oper +Forward", 1}, {"+Forward", 3}}},
		{1, 0, "-Learn", 2, []turn{{"+Learn", none}, {"+Learning", none}, {"Role=1", none}, {"+HeardAck", 3}}},
		{1, 4, "-Learn", 2, []turn{{"+Learn", none}, {"+Learning", none}, {"Role=2", none}, {"+TcProp", 3}}},
		{2, 3, "", 4, []turn{
			{"Role=1", none}, {"Role=2", none}, {"Role=0", 4}, {"Role=4", 4}, {"Role=5", 4}, {"Role=-1", 4}, {"+Oper", 4}, {"Role=1 +Oper", 4}, {"Selected=1", 4},
			{"+HeardTc", 4}, {"+HeardTcn", 4}, {"+HeardAck", 4}, {"+TcProp", 4}, {"+Learn +Forward", 4}, {"+Flush", 4}, {"Tc=0", 4},
		}},
		{2, 2, "+Oper", 4, []turn{
			{"-Oper", none}, {"-Oper +Admin", none}, {"Role=1", 4}, {"Role=3", 4}, {"+HeardTc", 4}, {"+HeardTcn", 4}, {"+HeardAck", 4}, {"+TcProp", 4}, {"+Learn +Forward", 4},
		}},
		{2, 2, "+HeardTcn", 5, []turn{
			{"-HeardTcn", none}, {"Role=1", 5}, {"Role=0", 4}, {"Role=3", 4}, {"+Oper", 4}, {"+HeardTc", 5}, {"+TcProp", 5}, {"+HeardAck", 5}, {"+TcAck", 5}, {"+TcAck Role=1", 5},
			{"Tc=0", 5}, {"Tc=0 +SendRstp", 5}, {"+Flush", 5}, {"+Learn +Forward", 5},
		}},
		{2, 2, "+HeardTc", 6, []turn{
			{"-HeardTc", none}, {"Role=1", 6}, {"Role=0", 4}, {"Role=4", 4}, {"+Oper", 4}, {"+HeardTcn", 5}, {"+TcProp", 6}, {"+HeardAck", 6}, {"+TcAck", 6}, {"+TcAck Role=1", 6},
			{"Tc=0", 6}, {"Tc=0 +SendRstp", 6}, {"+Flush", 6}, {"+Learn +Forward", 6},
		}},
		{2, 2, "+TcProp", 7, []turn{
			{"-TcProp", none}, {"Role=1", 7}, {"Role=3", 4}, {"+Oper", 4}, {"+HeardTcn", 5}, {"+HeardTc", 6}, {"+HeardAck", 7}, {"+TcAck", 7},
			{"Tc=0", 7}, {"Tc=0 +SendRstp", 7}, {"+Flush", 7}, {"+Learn +Forward", 7},
		}},
		{2, 2, "+HeardAck", 8, []turn{
			{"-HeardAck", none}, {"Role=1", 8}, {"Role=3", 4}, {"+Oper", 4}, {"+HeardTcn", 5}, {"+HeardTc", 6}, {"+TcProp", 7}, {"Tc=0", 8}, {"Tc=1", 8}, {"Tc=-1", 8}, {"+TcAck", 8}, {"+SendRstp", 8}, {"+Flush", 8},
		}},
	} {
		name := strconv.Itoa(x.change) + " " + strconv.Itoa(x.role) + " " + x.words
		start := edit(among(still(x.change, x.role)), x.words)
		checkStep(t, name, usual(), start, 1, x.step)
		for _, y := range x.turns {
			checkStep(t, name+" | "+y.words, usual(), edit(start, y.words), 1, y.step)
		}
	}
}

// What is told of steps above holds of a port that has none otherwise.
func TestStillIsStill(t *testing.T) {
	for change := range 3 {
		for role := range 5 {
			if change == 2 && role != 1 && role != 2 {
				continue
			}
			name := strconv.Itoa(change) + " " + strconv.Itoa(role)
			checkStep(t, name, usual(), among(still(change, role)), 1, none)
			checkStep(t, name+" alone", usual(), []state.Port{still(change, role)}, 0, none)
		}
	}
}

// P13.1: of what a port was told the first one is done: of each pair, of each three, and of all at once.
func TestFirstOfSeveral(t *testing.T) {
	for _, x := range []struct {
		words string
		steps []int
	}{
		{"", []int{none}},
		{"+HeardTcn", []int{5, none}},
		{"+HeardTc", []int{6, none}},
		{"+TcProp", []int{7, none}},
		{"+HeardAck", []int{8, none}},
		{"+HeardTcn +HeardTc", []int{5, none}},
		{"+HeardTcn +TcProp", []int{5, 7, none}},
		{"+HeardTcn +HeardAck", []int{5, 8, none}},
		{"+HeardTc +TcProp", []int{6, 7, none}},
		{"+HeardTc +HeardAck", []int{6, 8, none}},
		{"+TcProp +HeardAck", []int{7, 8, none}},
		{"+HeardTcn +HeardTc +TcProp", []int{5, 7, none}},
		{"+HeardTcn +HeardTc +HeardAck", []int{5, 8, none}},
		{"+HeardTcn +TcProp +HeardAck", []int{5, 7, 8, none}},
		{"+HeardTc +TcProp +HeardAck", []int{6, 7, 8, none}},
		{"+HeardTcn +HeardTc +TcProp +HeardAck", []int{5, 7, 8, none}},
		{"+HeardTcn +HeardTc +TcProp +HeardAck +Oper", []int{4, none}},
		{"+HeardTcn +HeardTc +TcProp +HeardAck Role=3", []int{4, 2, none}},
		{"+HeardTcn +HeardTc +TcProp +HeardAck Role=3 +Learn", []int{4, none}},
		{"+HeardTcn +HeardTc +TcProp +HeardAck Change=1 +Forward", []int{1, 5, 7, 8, none}},
		{"+HeardTcn +HeardTc +TcProp +HeardAck Change=1 +Forward +Oper", []int{3, none}},
		{"+HeardTcn +HeardTc +TcProp +HeardAck Change=1 Role=0", []int{3, 2, none}},
		{"+HeardTcn +HeardTc +TcProp +HeardAck Change=0 +Learn +Forward", []int{0, 1, none}},
		{"+HeardTcn +HeardTc +TcProp +HeardAck Change=0 +Learn Role=4", []int{0, none}},
	} {
		for _, tc := range []string{"Tc=0", "Tc=0 +SendRstp", "Tc=4"} {
			for _, role := range []int{1, 2} {
				l := edit(among(still(2, role)), tc+" "+x.words)
				for at, step := range x.steps {
					l = checkStep(t, strconv.Itoa(role)+" "+tc+" "+x.words+" step "+strconv.Itoa(at), usual(), l, 1, step)
				}
			}
		}
	}
}

// P13.1: a Change that is none of 0, 1 and 2 has no step, whatever else the port is.
func TestNoChange(t *testing.T) {
	for _, change := range []int{math.MinInt, -256, -3, -2, -1, 3, 4, 255, 256, 257, 258, 1 << 32, 1<<32 + 1, 1<<32 + 2, math.MaxInt} {
		for role := -1; role <= 5; role++ {
			for _, words := range []string{
				"", "+Learn", "+Forward", "+Learn +Learning +Forward +Forwarding", "+Oper",
				"+HeardTc +HeardTcn +HeardAck +TcProp +Learn +Forward", "+HeardTc +HeardTcn +HeardAck +TcProp +Oper +Flush",
			} {
				checkStep(t, strconv.Itoa(change)+" "+words, usual(), edit(among(bare(change, role)), words), 1, none)
			}
		}
	}
}

// P13.1: each role, and numbers that are none, which count as those that are neither 1 nor 2.
func TestRoles(t *testing.T) {
	for _, role := range []int{math.MinInt, -257, -256, -2, -1, 0, 1, 2, 3, 4, 5, 255, 256, 257, 258, 1 << 32, 1<<32 + 1, 1<<32 + 2, math.MaxInt} {
		of12 := role == 1 || role == 2
		for _, x := range []struct {
			change       int
			words        string
			of12, others int
		}{
			{0, "+Learn", 0, 0},
			{0, "-Learn", none, none},
			{1, "+Forward", 1, 2},
			{1, "+Forward +Learn", 1, none},
			{1, "-Learn", none, 2},
			{1, "+TcProp", 3, 3},
			{2, "", none, 4},
			{2, "+HeardTcn", 5, 4},
			{2, "+HeardTc", 6, 4},
			{2, "+TcProp", 7, 4},
			{2, "+HeardAck", 8, 4},
		} {
			step := x.others
			if of12 {
				step = x.of12
			}
			checkStep(t, strconv.Itoa(role)+" "+strconv.Itoa(x.change)+" "+x.words, usual(), edit(among(bare(x.change, role)), x.words), 1, step)
		}
	}
}

// P13.1: at no place nothing steps; at the first one and at the last one it does.
func TestPlaces(t *testing.T) {
	for n := range 4 {
		var l []state.Port
		for at := range n {
			p := bare(2, 1)
			p.Id, p.TcProp = uint64(at+1), true
			l = append(l, p)
		}
		for _, at := range []int{math.MinInt, -n - 1, -n, -1, n, n + 1, 16, 1 << 32, math.MaxInt} {
			if at < 0 || at >= n {
				checkStep(t, strconv.Itoa(n)+" at "+strconv.Itoa(at), usual(), l, at, none)
			}
		}
		for at := range n {
			checkStep(t, strconv.Itoa(n)+" at "+strconv.Itoa(at), usual(), l, at, 7)
		}
	}
	for _, l := range [][]state.Port{nil, {}} {
		for _, at := range []int{-1, 0, 1} {
			if got, ok := Step(usual(), l, at); len(got) != 0 || ok {
				t.Error("no port", at, got, ok)
			}
		}
	}
}

// wrong are bridges that aren't right, each by one of its times.
func wrong() []info.Bridge {
	var l []info.Bridge
	for _, t := range []state.Times{
		{}, {Max: 5, Hello: 2, Delay: 15}, {Max: 41, Hello: 2, Delay: 15}, {Max: 20, Delay: 15}, {Max: 20, Hello: 3, Delay: 15},
		{Max: 20, Hello: 2, Delay: 3}, {Max: 20, Hello: 2, Delay: 31}, {Age: 1, Max: 20, Hello: 2, Delay: 15}, {Max: -20, Hello: -2, Delay: -15},
	} {
		l = append(l, info.Bridge{Id: 9, Times: t})
	}
	return l
}

// steps has, for each step by its number, ports of which the middle one is to do it.
func steps() [][]state.Port {
	return [][]state.Port{
		edit(among(still(0, 3)), "+Learn +HeardTc +TcProp"),
		edit(among(still(1, 1)), "+Forward Tc=0"),
		among(bare(1, 3)),
		edit(among(still(1, 2)), "+HeardTc +HeardAck"),
		edit(among(still(2, 2)), "+Oper +HeardTc"),
		edit(among(still(2, 2)), "+HeardTcn Tc=0"),
		edit(among(still(2, 2)), "+HeardTc"),
		edit(among(still(2, 2)), "+TcProp Tc=0"),
		edit(among(still(2, 2)), "+HeardAck"),
	}
}

// P13.1: of a bridge that isn't right nothing steps, alone or in a pass.
func TestWrongBridge(t *testing.T) {
	for _, b := range wrong() {
		for step, l := range steps() {
			name := strconv.Itoa(step) + " of a wrong bridge"
			checkStep(t, name, b, l, 1, none)
			got, ok := Pass(b, l)
			checkPorts(t, name, got, l)
			if ok {
				t.Errorf("%s: a pass of %+v changes something", name, b)
			}
		}
	}
	for step, l := range steps() {
		checkStep(t, strconv.Itoa(step), usual(), l, 1, step)
	}
}

// P13.1: to count down anew: by the bridge's times, not the port's; where Tc isn't 0, nothing of it.
func TestCountsDownAnew(t *testing.T) {
	for _, times := range []state.Times{{Max: 20, Hello: 2, Delay: 15}, {Max: 6, Hello: 1, Delay: 4}, {Max: 40, Hello: 2, Delay: 30}, {Max: 7, Hello: 1, Delay: 29}} {
		for _, step := range []int{1, 5, 7} {
			for _, words := range []string{"", "+NewInfo"} {
				start := edit(steps()[step], words)
				for _, x := range []struct {
					words   string
					tc      int
					newInfo bool
				}{
					{"Tc=0 +SendRstp", times.Hello + 1, true},
					{"Tc=0 -SendRstp", times.Max + times.Delay, step == 1},
					{"Tc=1 +SendRstp", 1, step == 1},
					{"Tc=1 -SendRstp", 1, step == 1},
					{"Tc=99 +SendRstp", 99, step == 1},
					{"Tc=-1 +SendRstp", -1, step == 1},
					{"Tc=-1 -SendRstp", -1, step == 1},
				} {
					got, ok := Step(info.Bridge{Times: times}, edit(start, x.words), 1)
					if newInfo := x.newInfo || words != ""; !ok || got[1].Tc != x.tc || got[1].NewInfo != newInfo {
						t.Errorf("step %d of %+v, %s %s: Tc %d, NewInfo %v", step, times, words, x.words, got[1].Tc, got[1].NewInfo)
					}
				}
			}
		}
	}
}

// P13.1: the steps that don't count down anew leave Tc as it was, or have it 0, and NewInfo as it was.
func TestCountsNotAnew(t *testing.T) {
	for _, step := range []int{0, 2, 3, 4, 6, 8} {
		for _, tc := range []int{0, 1, 35, -1} {
			for _, words := range []string{"", "+NewInfo", "+SendRstp", "+SendRstp +NewInfo"} {
				l := edit(steps()[step], words+" Tc="+strconv.Itoa(tc))
				want := tc
				if step == 2 || step == 8 {
					want = 0
				}
				got, ok := Step(usual(), l, 1)
				if !ok || got[1].Tc != want || got[1].NewInfo != l[1].NewInfo {
					t.Errorf("step %d, Tc %d, %s: Tc %d, NewInfo %v", step, tc, words, got[1].Tc, got[1].NewInfo)
				}
			}
		}
	}
}

// P13.1: of a notice, and of a change that was heard, a designated port acknowledges; a root port doesn't, and what it had stays.
func TestAcknowledges(t *testing.T) {
	for _, x := range []struct {
		words string
		want  bool
	}{
		{"Role=2", true}, {"Role=2 +TcAck", true}, {"Role=1", false}, {"Role=1 +TcAck", true},
	} {
		for _, told := range []string{"+HeardTcn", "+HeardTc", "+HeardTcn +HeardTc"} {
			got, ok := Step(usual(), edit(among(still(2, 2)), x.words+" "+told), 1)
			if p := got[1]; !ok || p.TcAck != x.want || p.HeardTc || p.HeardTcn {
				t.Errorf("%s %s: %v %+v", x.words, told, ok, p)
			}
		}
		// Nothing else has it acknowledge.
		for _, told := range []string{"+TcProp", "+HeardAck"} {
			got, ok := Step(usual(), edit(among(still(2, 2)), x.words+" "+told), 1)
			if want := strings.Contains(x.words, "+TcAck"); !ok || got[1].TcAck != want {
				t.Errorf("%s %s: %v %v", x.words, told, ok, got[1].TcAck)
			}
		}
	}
}

// P13.1: all others are told by the steps 1, 5 and 6 alone: all other ports, whatever they are, nothing else of them, and not the port itself.
func TestTellsOthers(t *testing.T) {
	tells := []int{1, 5, 6}
	for step, ports := range steps() {
		for n := 1; n <= 5; n++ {
			for at := range n {
				var l []state.Port
				for other := range n {
					p := bare(other%4, other*3%7-1)
					p.Id, p.On, p.Oper, p.TcProp = uint64(other+1), other%2 == 0, other%3 == 0, (other+step)%3 == 0
					l = append(l, p)
				}
				l[at] = ports[1]
				got, ok := Step(usual(), l, at)
				if !ok || len(got) != n {
					t.Fatal(step, n, at, ok, len(got))
				}
				for other := range n {
					if other == at {
						continue
					}
					want := l[other]
					want.TcProp = want.TcProp || slices.Contains(tells, step)
					if got[other] != want {
						t.Errorf("step %d of %d of %d: %+v", step, at, n, got[other])
					}
				}
				if got[at].TcProp {
					t.Errorf("step %d of %d of %d tells itself", step, at, n)
				}
			}
		}
	}
}

// P13.1: a port that is told already, and tells of something else first, is told still.
func TestToldStaysTold(t *testing.T) {
	for _, x := range []struct {
		change int
		words  string
	}{{1, "+Forward"}, {2, "+HeardTc"}, {2, "+HeardTcn"}} {
		got, ok := Step(usual(), edit(among(still(x.change, 2)), x.words+" +TcProp +HeardAck"), 1)
		if !ok || !got[1].TcProp || !got[1].HeardAck {
			t.Errorf("%d %s: %v %+v", x.change, x.words, ok, got[1])
		}
	}
}

// P13.1: to forget is of HeardTc, HeardTcn, HeardAck and TcProp, each by itself and all, and of nothing else.
func TestForgets(t *testing.T) {
	told := []string{"+HeardTc", "+HeardTcn", "+HeardAck", "+TcProp"}
	for set := range 1 << len(told) {
		words := "+NewInfo +TcAck +Agree +Agreed +Proposed +Proposing +Sync +Synced +Reroot +Disputed +HeardRstp +HeardStp +Check +SendRstp +Ready +Update +Reselect +On +Admin"
		for at, word := range told {
			if set>>at&1 != 0 {
				words += " " + word
			}
		}
		for _, x := range []struct {
			change, role int
			words        string
			behind       int
		}{{0, 2, "+Learn", 1}, {1, 2, "+Flush +Learn", 1}, {1, 3, "+Flush +Learn", 1}, {2, 2, "+Flush +Oper", 1}, {2, 3, "+Flush", 1}, {2, 0, "+Flush +Learn +Forward", 1}} {
			l := edit(among(bare(x.change, x.role)), words+" "+x.words)
			want := edit(l, "-HeardTc -HeardTcn -HeardAck -TcProp Change="+strconv.Itoa(x.behind))
			got, ok := Step(usual(), l, 1)
			checkPorts(t, words+" "+x.words, got, want)
			if applies := x.change != 1 || set != 0; ok != applies {
				t.Errorf("%s %s: %v", words, x.words, ok)
			}
		}
	}
}

// P13.1: the step that the chapter has is the one that is done, of all ports that may differ in it.
func TestStepsOfAllPorts(t *testing.T) {
	bools := strings.Fields("Learn Learning Forward Oper Flush HeardTc HeardTcn HeardAck TcProp TcAck SendRstp NewInfo")
	met := map[int]int{}
	for set := range 1 << len(bools) {
		base := bare(0, 0)
		v := reflect.ValueOf(&base).Elem()
		for at, name := range bools {
			v.FieldByName(name).SetBool(set>>at&1 != 0)
		}
		for role := -1; role <= 5; role++ {
			for change := -1; change <= 3; change++ {
				p := base
				p.Role, p.Change, p.Tc = role, change, (set+role+change)%3-1
				l := []state.Port{p, still(2, 2)}
				step := asked(p)
				met[step]++
				if got, ok := Step(usual(), l, 0); ok != (step != none) || !slices.Equal(got, stepped(usual(), l, 0, step)) {
					checkStep(t, "all ports", usual(), l, 0, step)
					t.Fatalf("step %d of %+v", step, p)
				}
			}
		}
	}
	for step := none; step <= 8; step++ {
		if met[step] == 0 {
			t.Error("not met:", step)
		}
	}
}

// P13.1: in a pass a port sees what those ahead of it did, and not what those behind it do.
func TestPassOrder(t *testing.T) {
	teller := edit(among(still(2, 1)), "+HeardTc +SendRstp")[1]
	other := edit(among(still(2, 2)), "Tc=0 +SendRstp")[1]
	told := edit(among(teller), "-HeardTc")[1]
	flushes := edit(among(other), "+Flush +NewInfo Tc=3")[1]
	waits := edit(among(other), "+TcProp")[1]

	for _, x := range []struct {
		name    string
		l       []state.Port
		behind  []state.Port
		changed bool
	}{
		{"told, then stepped", []state.Port{teller, other}, []state.Port{told, flushes}, true},
		{"stepped, then told", []state.Port{other, teller}, []state.Port{waits, told}, true},
		{"both", []state.Port{other, teller, other}, []state.Port{waits, told, flushes}, true},
		{"the next one", []state.Port{waits, told, flushes}, []state.Port{flushes, told, flushes}, true},
		{"at rest", []state.Port{flushes, told, flushes}, []state.Port{flushes, told, flushes}, false},
	} {
		got, ok := Pass(usual(), x.l)
		checkPorts(t, x.name, got, x.behind)
		if ok != x.changed {
			t.Errorf("%s: changed %v", x.name, ok)
		}
	}
}

// P13.1: two that heard of a change tell each other in one pass; what the first one is told, it does in the next one.
func TestPassOfTwoTellers(t *testing.T) {
	heard := edit(among(still(2, 2)), "+HeardTc Tc=0")[1]
	waits := edit(among(heard), "-HeardTc +TcAck +TcProp")[1]
	flushes := edit(among(waits), "-TcProp +Flush Tc=35")[1]
	l := []state.Port{heard, heard}
	for at, want := range [][]state.Port{{waits, waits}, {flushes, flushes}, {flushes, flushes}} {
		next, ok := Pass(usual(), l)
		checkPorts(t, "pass "+strconv.Itoa(at), next, want)
		if ok != (at < 2) {
			t.Errorf("pass %d: %v", at, ok)
		}
		l = next
	}
}

// P13.1: one that learns just now forgets what it is told in the next pass; one that doesn't learn keeps it till it does.
func TestPassOfWhoIsNotActive(t *testing.T) {
	teller := edit(among(still(2, 1)), "+HeardTc")[1]
	learns, idle := still(1, 2), still(0, 2)
	l, ok := Pass(usual(), []state.Port{teller, learns, idle})
	checkPorts(t, "told", l, []state.Port{edit(among(teller), "-HeardTc")[1], learns, edit(among(idle), "+TcProp")[1]})
	if !ok {
		t.Error("told: nothing changed")
	}
	l, ok = Pass(usual(), l)
	if ok || !l[2].TcProp {
		t.Error("at rest", ok, l[2].TcProp)
	}
	l[2].Learn = true
	l, ok = Pass(usual(), l)
	checkPorts(t, "learns", l[2:], edit(among(idle), "+Learn Change=1")[1:2])
	if !ok {
		t.Error("learns: nothing changed")
	}
}

// P13.1: a port does one step in a pass.
func TestPassStepsOnce(t *testing.T) {
	p := edit(among(still(0, 2)), "+Learn +Forward +HeardTc +TcProp Tc=0")[1]
	l := []state.Port{p}
	for at, words := range []string{"-HeardTc -TcProp Change=1", "+NewInfo Tc=35 Change=2", ""} {
		p = edit(among(p), words)[1]
		next, ok := Pass(usual(), l)
		checkPorts(t, "pass "+strconv.Itoa(at), next, []state.Port{p})
		if ok != (words != "") {
			t.Errorf("pass %d: %v", at, ok)
		}
		l = next
	}
}

// P13.1: a pass that changes nothing says so; each step by itself is a change.
func TestPassChanges(t *testing.T) {
	l := []state.Port{still(0, 0), still(1, 1), still(1, 3), still(2, 1), still(2, 2), still(3, 2)}
	got, ok := Pass(usual(), l)
	checkPorts(t, "still", got, l)
	if ok {
		t.Error("still ports changed")
	}
	for step, l := range steps() {
		alone := l[1:2:2]
		got, ok := Pass(usual(), alone)
		checkPorts(t, "alone", got, stepped(usual(), alone, 0, step))
		if !ok {
			t.Error(step, "changes nothing")
		}
	}
	for _, l := range [][]state.Port{nil, {}} {
		if got, ok := Pass(usual(), l); len(got) != 0 || ok {
			t.Error("no port", got, ok)
		}
	}
}

// P13.1: the last one to step may undo for others what they did, so what changed is told of all ports.
func TestPassThatTellsAgain(t *testing.T) {
	p := edit(among(still(2, 2)), "+TcProp +Flush")[1]
	teller := edit(among(still(2, 1)), "+HeardTc")[1]
	got, ok := Pass(usual(), []state.Port{p, teller})
	checkPorts(t, "told again", got, []state.Port{p, edit(among(teller), "-HeardTc")[1]})
	if !ok {
		t.Error("told again: nothing changed")
	}
}

// mixed is a port with each bool on or off at random, of any role, with a Tc near 0.
func mixed(r *rand.Rand) state.Port {
	p := bare(r.Intn(4), r.Intn(6)-1)
	v := reflect.ValueOf(&p).Elem()
	for at := range v.NumField() {
		if v.Field(at).Kind() == reflect.Bool {
			v.Field(at).SetBool(r.Intn(2) == 1)
		}
	}
	if r.Intn(2) == 0 {
		p.Change, p.Role, p.Oper = 2, 1+r.Intn(2), false
	}
	p.HeardTcn = p.HeardTcn && r.Intn(2) == 0
	p.Tc = r.Intn(4) - 1
	return p
}

func mixedPorts(r *rand.Rand) []state.Port {
	var l []state.Port
	for range r.Intn(6) {
		p := mixed(r)
		p.Id = uint64(len(l) + 1)
		l = append(l, p)
	}
	return l
}

// mixedBridge is one that is right.
func mixedBridge(r *rand.Rand) info.Bridge {
	return info.Bridge{Id: 9, Times: state.Times{Max: 6 + r.Intn(35), Hello: 1 + r.Intn(2), Delay: 4 + r.Intn(27)}}
}

// P13.1: a pass is of each port its step, over ports of all sorts.
func TestPassesOfAllSorts(t *testing.T) {
	r := rand.New(rand.NewSource(18))
	for range 40000 {
		b := mixedBridge(r)
		l := mixedPorts(r)
		want, done := slices.Clone(l), 0
		for at := range want {
			step := asked(want[at])
			want = stepped(b, want, at, step)
			if step != none {
				done++
			}
		}
		got, ok := Pass(b, l)
		if ok != (done > 0) || ok == slices.Equal(got, l) || !slices.Equal(got, want) {
			checkPorts(t, "pass", got, want)
			t.Fatalf("%v, %d steps of %+v", ok, done, l)
		}
	}
}

// P13.1: many ports: one tells them all.
func TestManyPorts(t *testing.T) {
	var l []state.Port
	for at := range 3000 {
		p := still(2, 1+at%2)
		p.Id, p.Tc = uint64(at), 0
		l = append(l, p)
	}
	l[1500].HeardTc = true
	l, _ = Pass(usual(), l)
	l, _ = Pass(usual(), l)
	got, ids := Flushed(l)
	if len(got) != 3000 || len(ids) != 2999 || slices.Contains(ids, 1500) {
		t.Error(len(got), len(ids))
	}
}

// P13.1: what is flushed: the Ids of those that were to forget, in order, and none is to any more; all else of them stays.
func TestFlushed(t *testing.T) {
	for _, x := range []struct {
		ids, flush string
		want       []uint64
	}{
		{"", "", nil},
		{"5", ".", nil},
		{"5", "f", []uint64{5}},
		{"5 4 3", "...", nil},
		{"5 4 3", "fff", []uint64{5, 4, 3}},
		{"5 4 3", "f..", []uint64{5}},
		{"5 4 3", ".f.", []uint64{4}},
		{"5 4 3", "..f", []uint64{3}},
		{"5 4 3", "f.f", []uint64{5, 3}},
		{"3 5 4", "fff", []uint64{3, 5, 4}},
		{"7 7 7", "f.f", []uint64{7, 7}},
		{"7 1 7", "ff.", []uint64{7, 1}},
		{"0 0", "f.", []uint64{0}},
	} {
		var l, behind []state.Port
		for at, id := range strings.Fields(x.ids) {
			p := bare(at%4, at%6)
			p.Id, p.Learn, p.On, p.TcProp = uint64(number(id)), at%2 == 0, true, true
			behind = append(behind, p)
			p.Flush = x.flush[at] == 'f'
			l = append(l, p)
		}
		was := slices.Clone(l)
		got, ids := Flushed(l)
		checkPorts(t, x.ids+" "+x.flush, got, behind)
		checkPorts(t, x.ids+" "+x.flush+" handed in", l, was)
		if !slices.Equal(ids, x.want) {
			t.Errorf("%s %s: %v, want %v", x.ids, x.flush, ids, x.want)
		}
		if got, ids := Flushed(got); !slices.Equal(got, behind) || len(ids) != 0 {
			t.Errorf("%s %s: again %v", x.ids, x.flush, ids)
		}
	}
	if got, ids := Flushed([]state.Port{}); len(got) != 0 || len(ids) != 0 {
		t.Error("no port", got, ids)
	}
	if _, ids := Flushed([]state.Port{{Id: math.MaxUint64, Flush: true}}); !slices.Equal(ids, []uint64{math.MaxUint64}) {
		t.Error("greatest", ids)
	}
}

// rest has passes done till one changes nothing.
func rest(t *testing.T, l []state.Port) []state.Port {
	t.Helper()
	for range 20 {
		behind, changed := Pass(usual(), l)
		l = behind
		if !changed {
			return l
		}
	}
	t.Fatalf("no rest: %+v", l)
	return nil
}

// P13.2: what a port was told of a change is told to all others that are active, once, and not back to it.
func TestToldToAllOthers(t *testing.T) {
	for n := 1; n <= 5; n++ {
		for at := range n {
			for _, x := range []struct {
				words string
				tc    int
			}{{"+HeardTc", 0}, {"+HeardTcn", 3}, {"+HeardTc +HeardTcn", 3}} {
				var l []state.Port
				var others []uint64
				for other := range n {
					p := edit(among(still(2, 1+other%2)), "Tc=0 +SendRstp +Learn +Learning +Forward +Forwarding")[1]
					p.Id = uint64(20 - other)
					if other == at {
						p = edit(among(p), x.words)[1]
					} else {
						others = append(others, p.Id)
					}
					l = append(l, p)
				}
				l = rest(t, l)
				for other, p := range l {
					tc := 3
					if other == at {
						tc = x.tc
					}
					if p.Flush != (other != at) || p.Tc != tc || p.NewInfo != (tc > 0) || p.TcProp || p.HeardTc || p.HeardTcn {
						t.Errorf("%s at %d of %d: port %d %+v", x.words, at, n, other, p)
					}
				}
				if _, ids := Flushed(l); !slices.Equal(ids, others) {
					t.Errorf("%s at %d of %d: flushed %v, want %v", x.words, at, n, ids, others)
				}
			}
		}
	}
}

// P13.2: a root port that comes to forward tells out of itself and of all others; an edge doesn't, and isn't told.
func TestComesToForward(t *testing.T) {
	words := "Change=0 Tc=0 +SendRstp +Learn +Learning +Forward +Forwarding"
	root := edit(among(bare(0, 1)), words)[1]
	other := edit(among(bare(0, 2)), words+" Change=2")[1]
	edge := edit(among(bare(0, 2)), words+" +Oper")[1]
	l := rest(t, []state.Port{edge, other, root})
	for at, want := range []struct {
		change, tc int
		flush      bool
	}{{1, 0, false}, {2, 3, true}, {2, 3, false}} {
		if p := l[at]; p.Change != want.change || p.Tc != want.tc || p.Flush != want.flush || p.NewInfo != (want.tc > 0) || p.TcProp {
			t.Errorf("port %d: %+v", at, p)
		}
	}
	// It goes off: what is known there is forgotten, and nobody is told.
	l, _ = Flushed(l)
	l[2] = edit(among(l[2]), "Role=0 -Learn -Learning -Forward -Forwarding -NewInfo +TcAck")[1]
	l[1].NewInfo = false
	was := slices.Clone(l)
	l = rest(t, l)
	checkPorts(t, "off", l, []state.Port{was[0], was[1], edit(among(was[2]), "Change=0 +Flush -TcAck Tc=0")[1]})
}

// P13.1: what names a port, its roles, what it may do and what it heard, and what other layers count, stays.
func TestWhatStays(t *testing.T) {
	goes := strings.Fields("Change Tc NewInfo HeardTc HeardTcn HeardAck TcAck TcProp Flush")
	stays := func(got, was []state.Port) {
		t.Helper()
		if len(got) != len(was) {
			t.Fatal("other ports")
		}
		for at := range got {
			g, w := reflect.ValueOf(got[at]), reflect.ValueOf(was[at])
			for field := range g.NumField() {
				name := g.Type().Field(field).Name
				if !slices.Contains(goes, name) && !g.Field(field).Equal(w.Field(field)) {
					t.Errorf("%s went from %v to %v", name, w.Field(field), g.Field(field))
				}
			}
		}
	}
	r := rand.New(rand.NewSource(19))
	for range 5000 {
		b := mixedBridge(r)
		l := mixedPorts(r)
		for at := range l {
			got, _ := Step(b, l, at)
			stays(got, l)
		}
		got, _ := Pass(b, l)
		stays(got, l)
		got, _ = Flushed(got)
		stays(got, l)
	}
}

// What is handed in stays, with its spare room, and an answer is new memory: it is changed here, and nothing else is.
func TestFresh(t *testing.T) {
	spare := edit(among(bare(7, 7)), "+Flush +TcProp +Learn")[1]
	calls := []func(b info.Bridge, l []state.Port) []state.Port{
		func(b info.Bridge, l []state.Port) []state.Port { l, _ = Pass(b, l); return l },
		func(b info.Bridge, l []state.Port) []state.Port {
			got, ids := Flushed(l)
			for at := range ids {
				ids[at] = 99
			}
			return got
		},
	}
	for _, at := range []int{-1, 0, 1, 2, 3} {
		calls = append(calls, func(b info.Bridge, l []state.Port) []state.Port { l, _ = Step(b, l, at); return l })
	}
	starts := append(steps(), among(still(1, 2)), edit(among(still(2, 2)), "0:+Flush +Flush 2:+Flush"), []state.Port{})
	for _, b := range []info.Bridge{usual(), {}} {
		for _, start := range starts {
			for at, call := range calls {
				room := append(slices.Clone(start), spare, spare)
				l := room[:len(start)]
				got := call(b, l)
				for port := range got {
					got[port] = state.Port{Id: 77}
				}
				got = append(got, state.Port{Id: 77})
				if len(got) != len(start)+1 || !slices.Equal(room, append(slices.Clone(start), spare, spare)) {
					t.Errorf("call %d of %d ports changed what was handed in", at, len(start))
				}
			}
		}
	}
}

// The same is answered to the same, however often it is asked.
func TestSameAgain(t *testing.T) {
	r := rand.New(rand.NewSource(20))
	for range 500 {
		b := mixedBridge(r)
		l := mixedPorts(r)
		first, ok := Pass(b, l)
		second, again := Pass(b, l)
		if ok != again || !slices.Equal(first, second) {
			t.Errorf("%+v", l)
		}
	}
}
