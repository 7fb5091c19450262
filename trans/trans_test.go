package trans

import (
	"math"
	"math/rand"
	"reflect"
	"slices"
	"strconv"
	"strings"
	"testing"

	"treebridge/api"
	"treebridge/info"
	"treebridge/state"
)

// The numbers are told by hand, not taken from the package.

// usual is a bridge of the times that are usual.
func usual() info.Bridge {
	return info.Bridge{Id: 9, Times: state.Times{Max: 20, Hello: 2, Delay: 15}}
}

func vec(root, cost, bridge, port uint64) api.Vector {
	return api.Vector{Root: root, Cost: cost, Bridge: bridge, Port: port}
}

// bare has no bool that is on, nothing else that is zero but its roles, and no two numbers that are the same.
func bare(role int) state.Port {
	return state.Port{
		Id: 0x8001, Cost: 20000,
		Source: 3,
		Vector: vec(101, 102, 103, 104),
		Times:  state.Times{Age: 111, Max: 112, Hello: 113, Delay: 114},
		Offer:  vec(121, 122, 123, 124),
		Given:  state.Times{Age: 131, Max: 132, Hello: 133, Delay: 134},
		Role:   role, Selected: role,
		Fd: 21, Rr: 22, Rb: 23, Tc: 24, Edge: 25, Md: 26, Info: 27, Hello: 28,
		TxCount: 29,
		Change:  31, Migrate: 32,
	}
}

// still is a port of that role, among others that are synced, of which no move of the usual bridge applies.
func still(role int) state.Port {
	p := bare(role)
	p.Ready = true
	switch role {
	case 0:
		p.Fd, p.Synced = 20, true
	case 1:
		p.Agree, p.Learn, p.Learning, p.Forward, p.Forwarding = true, true, true, true, true
		p.Rr = 15
	case 2:
		p.Proposing, p.Synced = true, true
	case 3:
		p.Agree, p.Synced, p.Fd = true, true, 15
	case 4:
		p.Agree, p.Synced, p.Fd, p.Rb = true, true, 15, 4
	}
	return p
}

// among has p between two others that are still, synced and rerooted.
func among(p state.Port) []state.Port {
	first, last := still(2), still(2)
	first.Id, first.Rr = 0x8002, 0
	last.Id, last.Rr = 0x8003, 0
	return []state.Port{first, p, last}
}

// edit changes ports as words tell: "+Agree" is on, "-Agree" is off, "Fd=3" is 3, of port 1, or of another one as in "2:-Synced".
func edit(l []state.Port, words string) []state.Port {
	out := slices.Clone(l)
	for _, word := range strings.Fields(words) {
		at := 1
		if place, rest, ok := strings.Cut(word, ":"); ok {
			at, word = number(place), rest
		}
		v := reflect.ValueOf(&out[at]).Elem()
		if name, n, ok := strings.Cut(word, "="); ok {
			v.FieldByName(name).SetInt(int64(number(n)))
			continue
		}
		v.FieldByName(word[1:]).SetBool(word[0] == '+')
	}
	return out
}

func number(s string) int {
	n, err := strconv.Atoi(s)
	if err != nil {
		panic(err)
	}
	return n
}

// moved is l when port at did the move of that number; none is 0.
func moved(b info.Bridge, l []state.Port, at, move int) []state.Port {
	out := slices.Clone(l)
	if move == 0 {
		return out
	}
	p := &out[at]
	switch move {
	case 1:
		p.Role, p.Learn, p.Forward = p.Selected, false, false
	case 2:
		p.Role = p.Selected
		if p.Selected == 1 {
			p.Rr = b.Times.Delay
		}
	case 3, 7:
		p.Proposed = false
		for other := range out {
			out[other].Sync = out[other].Sync || other != at
		}
	case 4:
		p.Proposed, p.Agree, p.NewInfo = false, true, true
	case 5:
		p.Fd = b.Times.Delay
		if p.Role == 0 {
			p.Fd = b.Times.Max
		}
		p.Synced, p.Rr, p.Sync, p.Reroot = true, 0, false, false
	case 6:
		p.Rb = 2 * b.Times.Hello
	case 8:
		p.Proposed, p.Sync, p.Agree, p.NewInfo = false, false, true, true
	case 9:
		p.Synced, p.Sync = true, false
	case 10:
		for every := range out {
			out[every].Reroot = true
		}
	case 11:
		p.Rr = b.Times.Delay
	case 12, 16:
		p.Reroot = false
	case 14:
		p.Proposing, p.NewInfo, p.Edge = true, true, 3
	case 15:
		p.Rr, p.Synced, p.Sync = 0, true, false
	case 17:
		p.Learn, p.Forward, p.Disputed, p.Fd = false, false, false, b.Times.Delay
	case 13, 18:
		switch {
		case !p.Learn:
			p.Learn, p.Fd = true, b.Times.Delay
		case move == 18:
			p.Forward, p.Fd, p.Agreed = true, 0, p.SendRstp
		default:
			p.Forward, p.Fd = true, 0
		}
	}
	return out
}

func checkPorts(t *testing.T, name string, got, want []state.Port) {
	t.Helper()
	if len(got) != len(want) {
		t.Errorf("%s: %d ports, want %d", name, len(got), len(want))
		return
	}
	for at := range want {
		g, w := reflect.ValueOf(got[at]), reflect.ValueOf(want[at])
		for field := range g.NumField() {
			if !g.Field(field).Equal(w.Field(field)) {
				t.Errorf("%s: %s of port %d is %v, want %v", name, g.Type().Field(field).Name, at, g.Field(field), w.Field(field))
			}
		}
	}
}

// checkMove has port at move, which should be by the move of that number, or by none if it is 0.
func checkMove(t *testing.T, name string, b info.Bridge, l []state.Port, at, move int) []state.Port {
	t.Helper()
	got, ok := Move(b, l, at)
	if ok != (move != 0) {
		t.Errorf("%s: a move is %v, want %d", name, ok, move)
	}
	checkPorts(t, name, got, moved(b, l, at, move))
	return got
}

// turn is what is turned about, and which move is then.
type turn struct {
	words string
	move  int
}

// synced turns about whether all others are synced: the move is that of a port that agrees once they are.
func synced(move int) []turn {
	return []turn{
		{"2:-Synced", 0}, {"0:-Synced", 0}, {"0:-Synced 2:-Synced", 0},
		{"2:-Ready", 0}, {"0:-Ready", 0},
		{"2:Role=3", 0}, {"2:Selected=3", 0}, {"0:Role=1", 0}, {"0:Selected=1", 0},
		{"2:-Synced 2:Role=1 2:Selected=1", move}, {"0:-Synced 0:Role=1 0:Selected=1", move},
		{"2:-Synced 2:Role=1", 0}, {"2:-Synced 2:Selected=1", 0}, {"2:-Synced 2:Role=1 2:Selected=1 2:-Ready", 0},
		{"2:-Synced 2:Role=9 2:Selected=9", 0}, {"2:-Synced 2:Role=0 2:Selected=0", 0}, {"2:-Synced 2:Role=3 2:Selected=3", 0},
		{"2:Role=9 2:Selected=9", move}, {"2:Role=0 2:Selected=0", move}, {"2:Role=4 2:Selected=4", move}, {"2:+Update", move}, {"2:+Sync", move},
		{"-Synced", move},
	}
}

// rerooted turns about whether all others are rerooted: the move is that of a port that opens once they are.
func rerooted(move int) []turn {
	return []turn{
		{"2:Rr=1", 0}, {"0:Rr=1", 0}, {"2:Rr=-1", 0}, {"0:Rr=30 2:Rr=30", 0},
		{"2:Rr=1 2:Role=1", move}, {"0:Rr=1 0:Role=1", move}, {"2:Rr=1 2:Selected=1", 0}, {"0:Rr=1 2:Role=1", 0},
		{"2:-Ready", move}, {"2:+Update", move}, {"2:+Reroot", move},
	}
}

// P12.1: each move just at the edge of what it asks, and each of its conditions turned about.
func TestMoves(t *testing.T) {
	for _, x := range []struct {
		role  int
		words string
		move  int
		turns []turn
	}{
		{2, "Selected=3 +Learn +Forward", 1, []turn{
			{"Selected=0", 1}, {"Selected=4", 1}, {"Selected=1", 2}, {"Selected=2", 0}, {"Selected=5", 0}, {"Selected=-1", 0}, {"Role=9", 1}, {"Role=3", 4},
			{"-Learn", 1}, {"-Forward", 1}, {"-Learn -Forward", 1}, {"+Learning +Forwarding", 1}, {"+Sync +Reroot", 1},
		}},
		{3, "Selected=1 +Learn +Forward", 2, []turn{
			{"Selected=2", 2}, {"Selected=0", 1}, {"Selected=4", 1}, {"Selected=3", 0}, {"Selected=5", 0}, {"Selected=-1", 0}, {"Role=9", 2},
			{"Rr=15", 2}, {"Rr=0", 2}, {"Rr=0 Selected=2", 2},
		}},
		{3, "+Proposed -Agree 2:-Synced", 3, []turn{
			{"-Proposed", 0}, {"+Agree", 4}, {"+Learning", 0}, {"+Forwarding", 0}, {"+Learning +Forwarding", 0}, {"2:+Synced", 3}, {"Role=0 Selected=0 Fd=20", 0},
		}},
		{4, "+Proposed -Agree 2:-Synced", 3, []turn{
			{"-Proposed", 0}, {"+Agree", 4}, {"+Learning", 0}, {"+Forwarding", 0}, {"+Learning +Forwarding", 0}, {"2:+Synced", 3}, {"Role=0 Selected=0 Fd=20", 0},
		}},
		{3, "-Agree", 4, slices.Concat(synced(4), []turn{
			{"+Agree", 0}, {"+Proposed", 3}, {"+Proposed +Learning", 4}, {"+Learning", 4}, {"+Forwarding", 4}, {"Role=0 Selected=0 Fd=20", 0},
		})},
		{4, "-Agree", 4, slices.Concat(synced(4), []turn{
			{"+Agree", 0}, {"+Proposed", 3}, {"+Proposed +Forwarding", 4}, {"+Learning", 4}, {"+Forwarding", 4}, {"Role=0 Selected=0 Fd=20", 0},
		})},
		{3, "+Proposed 2:-Synced", 4, []turn{
			{"-Proposed", 0}, {"-Agree", 3}, {"-Agree +Learning", 0}, {"+Learning", 4}, {"+Forwarding", 4}, {"2:+Synced", 4}, {"Role=0 Selected=0 Fd=20", 0},
		}},
		{4, "+Proposed 2:-Synced", 4, []turn{
			{"-Proposed", 0}, {"-Agree", 3}, {"-Agree +Forwarding", 0}, {"+Learning", 4}, {"+Forwarding", 4}, {"2:+Synced", 4}, {"Role=0 Selected=0 Fd=20", 0},
		}},
		{0, "Fd=19", 5, []turn{
			{"Fd=20", 0}, {"Fd=21", 5}, {"Fd=15", 5}, {"Fd=0", 5}, {"Fd=-20", 5}, {"+Learning", 0}, {"+Forwarding", 0},
			{"+Proposed", 5}, {"-Agree", 5}, {"Rb=0", 5},
		}},
		{3, "Fd=14", 5, []turn{{"Fd=15", 0}, {"Fd=16", 5}, {"Fd=20", 5}, {"Fd=0", 5}, {"Fd=-15", 5}, {"+Learning", 0}, {"+Forwarding", 0}}},
		{4, "Fd=14", 5, []turn{{"Fd=15", 0}, {"Fd=16", 5}, {"Fd=20", 5}, {"Fd=0", 5}, {"Fd=-15", 5}, {"+Learning", 0}, {"+Forwarding", 0}}},
		{0, "+Sync", 5, []turn{{"-Sync", 0}, {"+Learning", 0}, {"+Forwarding", 0}}},
		{3, "+Sync", 5, []turn{{"-Sync", 0}, {"+Learning", 0}, {"+Forwarding", 0}}},
		{4, "+Sync", 5, []turn{{"-Sync", 0}, {"+Learning", 0}, {"+Forwarding", 0}}},
		{0, "+Reroot", 5, []turn{{"-Reroot", 0}, {"+Learning", 0}, {"+Forwarding", 0}}},
		{3, "+Reroot", 5, []turn{{"-Reroot", 0}, {"+Learning", 0}, {"+Forwarding", 0}}},
		{4, "+Reroot", 5, []turn{{"-Reroot", 0}, {"+Learning", 0}, {"+Forwarding", 0}}},
		{0, "-Synced", 5, []turn{{"+Synced", 0}, {"+Learning", 0}, {"+Forwarding", 0}}},
		{3, "-Synced", 5, []turn{{"+Synced", 0}, {"+Learning", 0}, {"+Forwarding", 0}}},
		{4, "-Synced", 5, []turn{{"+Synced", 0}, {"+Learning", 0}, {"+Forwarding", 0}}},
		{4, "Rb=3", 6, []turn{
			{"Rb=4", 0}, {"Rb=5", 6}, {"Rb=2", 6}, {"Rb=0", 6}, {"Rb=-4", 6}, {"+Learning", 6}, {"+Forwarding", 6}, {"Fd=14", 5}, {"Fd=14 +Learning", 6},
			{"Role=3 Selected=3", 0}, {"Role=0 Selected=0 Fd=20", 0},
		}},
		{1, "+Proposed -Agree 2:-Synced", 7, []turn{
			{"-Proposed", 0}, {"+Agree", 8}, {"2:+Synced", 7}, {"-Learning -Forwarding", 7}, {"-Learn -Forward", 7},
		}},
		{1, "-Agree", 8, slices.Concat(synced(8), []turn{{"+Agree", 0}, {"+Proposed", 7}, {"+Sync", 8}, {"+Sync +Synced", 8}, {"-Learning -Forwarding", 8}})},
		{1, "+Proposed 2:-Synced", 8, []turn{{"-Proposed", 0}, {"-Agree", 7}, {"2:+Synced", 8}, {"+Sync", 8}, {"+Sync +Synced", 8}}},
		{1, "+Agreed", 9, []turn{{"-Agreed", 0}, {"+Synced", 0}, {"+Sync", 9}, {"+Sync +Synced", 9}, {"-Agreed +Sync", 0}}},
		{1, "+Sync +Synced", 9, []turn{{"-Sync", 0}, {"-Synced", 0}, {"+Agreed", 9}, {"-Synced +Agreed", 9}}},
		{1, "-Forward", 10, []turn{{"+Forward", 0}, {"+Reroot", 0}, {"-Learn", 10}, {"2:+Reroot", 10}, {"0:+Reroot 2:+Reroot", 10}, {"-Forwarding", 10}}},
		{1, "Rr=14", 11, []turn{{"Rr=15", 0}, {"Rr=16", 11}, {"Rr=0", 11}, {"Rr=-15", 11}, {"-Forward", 10}, {"+Reroot", 11}}},
		{1, "+Reroot", 12, []turn{{"-Reroot", 0}, {"-Forward", 0}, {"-Learn", 12}, {"-Learn Fd=0", 12}, {"Rr=14", 11}}},
		{1, "-Learn Fd=0 -SendRstp 2:Rr=1", 13, []turn{
			{"+Learn", 0}, {"Fd=1", 0}, {"Fd=-1", 0}, {"-Forward +Reroot", 13}, {"+SendRstp", 13}, {"-Learning", 13}, {"2:Rr=0", 13}, {"Rb=0", 13},
		}},
		{1, "-Learn +SendRstp Rb=0", 13, slices.Concat(rerooted(13), []turn{
			{"-SendRstp", 0}, {"Rb=1", 0}, {"Rb=-1", 0}, {"+Learn", 0}, {"Fd=1", 13}, {"-Forward +Reroot", 13}, {"-SendRstp Fd=0", 13}, {"Rb=1 Fd=0", 13},
		})},
		{1, "-Forward +Reroot Fd=0 -SendRstp 2:Rr=1", 13, []turn{
			{"+Forward", 12}, {"+Forward -Reroot", 0}, {"-Reroot", 10}, {"Fd=1", 0}, {"Fd=-1", 0}, {"-Learning", 13}, {"+Agreed +Synced", 13},
		}},
		{1, "-Forward +Reroot +SendRstp Rb=0", 13, slices.Concat(rerooted(13), []turn{
			{"-SendRstp", 0}, {"Rb=1", 0}, {"Rb=-1", 0}, {"+Forward", 12}, {"-Reroot", 10}, {"-Learn", 13},
		})},
		{2, "-Proposing +SendRstp", 14, []turn{
			{"+Forward", 0}, {"+Agreed", 18}, {"+Proposing", 0}, {"+Oper", 18}, {"-SendRstp", 0}, {"+Learn", 14}, {"+Learning +Forwarding", 14}, {"-Synced", 14}, {"Fd=0", 14}, {"Edge=3", 14}, {"Edge=0", 14},
		}},
		{2, "-Synced", 15, []turn{
			{"+Synced", 0}, {"+Learning", 0}, {"+Forwarding", 0}, {"+Learning +Forwarding", 0}, {"+Sync", 15}, {"+Sync +Learning", 0}, {"Rr=0", 15},
			{"+Learning +Agreed", 15}, {"+Learning +Oper", 15}, {"+Forwarding +Agreed", 15}, {"+Forwarding +Oper", 15}, {"+Reroot", 15},
		}},
		{2, "-Synced +Learning +Forwarding +Agreed", 15, []turn{{"-Agreed", 0}, {"+Synced", 18}, {"-Learning -Forwarding", 15}, {"+Sync", 15}}},
		{2, "-Synced +Learning +Forwarding +Oper", 15, []turn{{"-Oper", 0}, {"+Synced", 18}, {"-Learning -Forwarding", 15}, {"+Sync", 15}}},
		{2, "+Sync +Learning", 15, []turn{{"-Sync", 0}, {"-Synced", 0}, {"-Synced -Learning", 15}, {"-Learning", 15}, {"+Agreed", 15}, {"+Oper", 15}, {"Fd=0", 15}}},
		{2, "Rr=0 +Reroot", 16, []turn{
			{"-Reroot", 0}, {"Rr=1", 0}, {"Rr=-1", 0}, {"Rr=1 +Learn", 17}, {"+Learn +Disputed", 16}, {"Fd=0", 16}, {"+Oper", 16},
		}},
		{2, "+Sync -Synced +Learning +Learn", 17, []turn{
			{"-Sync", 0}, {"+Synced", 15}, {"-Learn", 0}, {"-Learn +Forward", 17}, {"+Forward", 17}, {"+Oper", 15}, {"+Agreed", 15}, {"-Learning", 15}, {"+Disputed", 17}, {"Fd=0", 17}, {"Fd=15", 17},
		}},
		{2, "+Reroot Rr=1 +Learn", 17, []turn{
			{"-Reroot", 0}, {"Rr=0", 16}, {"Rr=-1", 17}, {"-Learn", 0}, {"-Learn +Forward", 17}, {"+Forward", 17}, {"+Oper", 0}, {"Fd=0", 17}, {"+Agreed", 17},
		}},
		{2, "+Disputed +Learn", 17, []turn{
			{"-Disputed", 0}, {"-Learn", 0}, {"-Learn +Forward", 17}, {"+Forward", 17}, {"+Oper", 0}, {"Fd=0", 17}, {"+Agreed", 17},
		}},
		{2, "Fd=0", 18, []turn{
			{"Fd=1", 0}, {"Fd=-1", 0}, {"+Agreed", 18}, {"+Oper", 18}, {"+SendRstp", 18}, {"+Learn", 18}, {"+Forward", 18}, {"+Learn +Forward", 0}, {"+Learning", 18},
			{"+Sync", 15}, {"+Sync -Synced +Learning", 0}, {"+Reroot", 0}, {"+Reroot Rr=-1", 0}, {"+Reroot Rr=0", 16}, {"Rr=0", 18}, {"+Disputed", 0},
		}},
		{2, "+Agreed", 18, []turn{
			{"-Agreed", 0}, {"+Learn", 18}, {"+Learn +Forward", 0}, {"+Sync", 15}, {"+Reroot", 0}, {"+Disputed", 0}, {"+SendRstp", 18}, {"+Forward", 18},
		}},
		{2, "+Oper", 18, []turn{
			{"-Oper", 0}, {"+Learn", 18}, {"+Learn +Forward", 0}, {"+Sync", 15}, {"+Reroot", 0}, {"+Disputed", 0}, {"+SendRstp", 18}, {"+Learn +SendRstp", 18}, {"+Forward", 18},
		}},
		{2, "+Learn +Learning Fd=0 +Agreed -SendRstp", 18, []turn{
			{"-Agreed", 18}, {"+SendRstp", 18}, {"-Agreed +SendRstp", 18}, {"+Forward", 0}, {"-Learn", 18}, {"Fd=1", 18}, {"Fd=1 -Agreed", 0}, {"-Learning", 18},
			{"+Disputed", 17}, {"+Disputed +Oper", 0}, {"+Reroot", 17}, {"+Reroot +Oper", 0}, {"+Sync", 15}, {"-SendRstp -Agreed -Proposing", 18},
		}},
	} {
		name := strconv.Itoa(x.role) + " " + x.words
		start := edit(among(still(x.role)), x.words)
		checkMove(t, name, usual(), start, 1, x.move)
		for _, y := range slices.Concat(x.turns, []turn{{"-Ready", 0}, {"+Update", 0}, {"-Ready +Update", 0}}) {
			checkMove(t, name+" | "+y.words, usual(), edit(start, y.words), 1, y.move)
		}
	}
}

// What is told of moves above holds of a port that has none otherwise.
func TestStillIsStill(t *testing.T) {
	for role := range 5 {
		checkMove(t, strconv.Itoa(role), usual(), among(still(role)), 1, 0)
		checkMove(t, strconv.Itoa(role)+" alone", usual(), []state.Port{still(role)}, 0, 0)
	}
}

// P12.1: of moves that apply the first one is done, and the ports come to the next ones by them.
func TestFirstOfSeveral(t *testing.T) {
	for _, x := range []struct {
		role  int
		words string
		moves []int
	}{
		{0, "Role=2 Fd=3 -Synced +Sync +Proposed -Agree", []int{1, 5, 0}},
		{3, "Role=1 Fd=3 -Synced +Sync +Proposed -Agree Rb=0", []int{1, 3, 4, 5, 0}},
		{4, "Role=1 Fd=3 -Synced +Sync +Proposed -Agree Rb=0", []int{1, 3, 4, 5, 6, 0}},
		{1, "Role=2 +Proposed -Agree +Agreed -Synced +Sync -Learn -Forward Fd=0 Rb=0 +SendRstp", []int{2, 7, 8, 9, 10, 13, 13, 12, 0}},
		{1, "+Proposed -Agree +Agreed -Synced +Sync -Learn -Forward Rr=3 Fd=0 Rb=0 +SendRstp", []int{7, 8, 9, 10, 11, 13, 13, 12, 0}},
		{1, "+Proposed -Agree +Sync +Synced +Reroot -Learn Rr=3 Fd=0", []int{7, 8, 11, 12, 13, 0}},
		{2, "Role=3 -Proposing +SendRstp -Synced +Sync +Reroot +Disputed +Learn", []int{2, 14, 15, 16, 17, 0}},
		{2, "-Synced +Sync +Reroot +Disputed +Learn +Agreed -SendRstp", []int{15, 16, 17, 18, 18, 0}},
		{2, "+Sync +Reroot +Oper Fd=0", []int{15, 16, 18, 18, 0}},
	} {
		l := edit(among(still(x.role)), x.words)
		for at, move := range x.moves {
			l = checkMove(t, strconv.Itoa(x.role)+" "+x.words+" step "+strconv.Itoa(at), usual(), l, 1, move)
		}
	}
}

// P12.1: Selected unlike Role for each role, and for what is none; like it for what is none.
func TestToRole(t *testing.T) {
	numbers := []int{math.MinInt, -256, -1, 0, 1, 2, 3, 4, 5, 6, 256, 258, 1 << 32, 1<<32 + 1, math.MaxInt}
	for _, role := range numbers {
		for _, selected := range numbers {
			p := bare(role)
			p.Selected = selected
			p.Ready, p.Learn, p.Learning, p.Forward, p.Forwarding = true, true, true, true, true
			move := 0
			switch {
			case role == selected && role >= 0 && role <= 4:
				continue
			case role == selected:
			case selected == 0, selected == 3, selected == 4:
				move = 1
			case selected == 1, selected == 2:
				move = 2
			}
			checkMove(t, strconv.Itoa(role)+" to "+strconv.Itoa(selected), usual(), among(p), 1, move)
		}
	}
}

// Behind whatever numbers as roles, the state steps, and nothing else does.
func TestNoRole(t *testing.T) {
	for _, role := range []int{-1, 5, 9} {
		p := bare(role)
		p.Ready, p.Learn, p.Proposed, p.Sync, p.Reroot, p.Agreed = true, true, true, true, true, true
		want := p
		want.Learning = true
		got, n := Rest(usual(), []state.Port{p})
		checkPorts(t, strconv.Itoa(role), got, []state.Port{want})
		if n != 1 {
			t.Errorf("%d: %d passes", role, n)
		}
	}
}

// P12.1: at no place nothing moves; at the first one and at the last one it does.
func TestPlaces(t *testing.T) {
	for n := range 4 {
		var l []state.Port
		for at := range n {
			p := still(0)
			p.Id, p.Fd = uint64(at+1), 3
			l = append(l, p)
		}
		for _, at := range []int{math.MinInt, -n - 1, -n, -1, n, n + 1, 16, 1 << 32, math.MaxInt} {
			if at < 0 || at >= n {
				checkMove(t, strconv.Itoa(n)+" at "+strconv.Itoa(at), usual(), l, at, 0)
			}
		}
		for at := range n {
			checkMove(t, strconv.Itoa(n)+" at "+strconv.Itoa(at), usual(), l, at, 5)
		}
	}
	if l, ok := Move(usual(), nil, 0); len(l) != 0 || ok {
		t.Error("no port", l, ok)
	}
}

// wrong are bridges that aren't right, each by one of its times.
func wrong() []info.Bridge {
	var l []info.Bridge
	for _, t := range []state.Times{
		{}, {Max: 5, Hello: 2, Delay: 15}, {Max: 41, Hello: 2, Delay: 15}, {Max: 20, Delay: 15}, {Max: 20, Hello: 3, Delay: 15},
		{Max: 20, Hello: 2, Delay: 3}, {Max: 20, Hello: 2, Delay: 31}, {Age: 1, Max: 20, Hello: 2, Delay: 15}, {Max: -20, Hello: -2, Delay: -15},
	} {
		l = append(l, info.Bridge{Id: 9, Times: t})
	}
	return l
}

// P12.1: of a bridge that isn't right nothing moves; a pass and a rest are of the states alone then.
func TestWrongBridge(t *testing.T) {
	for _, b := range wrong() {
		for role := range 5 {
			p := bare(role)
			p.Ready, p.Learn, p.Forward = true, true, true
			l := among(p)
			if got, ok := Move(b, l, 1); ok || !slices.Equal(got, l) {
				t.Errorf("%+v moves %d", b, role)
			}
			want := slices.Clone(l)
			want[1].Learning = true
			got, ok := Pass(b, l)
			checkPorts(t, "pass", got, want)
			want[1].Forwarding = true
			rest, n := Rest(b, l)
			checkPorts(t, "rest", rest, want)
			if !ok || n != 2 {
				t.Errorf("%+v of %d: %v, %d", b, role, ok, n)
			}
		}
	}
}

// P12.1: the times are the bridge's: not a port's, nor those of every bridge.
func TestTimes(t *testing.T) {
	for _, times := range []state.Times{{Max: 6, Hello: 1, Delay: 4}, {Max: 40, Hello: 2, Delay: 30}, {Max: 7, Hello: 1, Delay: 29}} {
		b := info.Bridge{Times: times}
		for _, x := range []struct {
			role  int
			words string
			move  int
			want  func(p *state.Port)
		}{
			{3, "Selected=1", 2, func(p *state.Port) { p.Role, p.Rr = 1, times.Delay }},
			{0, "Fd=1", 5, func(p *state.Port) { p.Fd, p.Rr = times.Max, 0 }},
			{3, "Fd=1", 5, func(p *state.Port) { p.Fd, p.Rr = times.Delay, 0 }},
			{4, "Fd=1", 5, func(p *state.Port) { p.Fd, p.Rr = times.Delay, 0 }},
			{4, "+Learning Rb=3", 6, func(p *state.Port) { p.Rb = 2 * times.Hello }},
			{1, "Rr=1", 11, func(p *state.Port) { p.Rr = times.Delay }},
			{1, "-Learn Fd=0 Rr=" + strconv.Itoa(times.Delay), 13, func(p *state.Port) { p.Learn, p.Fd = true, times.Delay }},
			{2, "+Disputed +Learn", 17, func(p *state.Port) { p.Disputed, p.Learn, p.Fd = false, false, times.Delay }},
			{2, "Fd=0", 18, func(p *state.Port) { p.Learn, p.Fd = true, times.Delay }},
		} {
			l := edit(among(still(x.role)), x.words)
			want := slices.Clone(l)
			x.want(&want[1])
			checkPorts(t, x.words, checkMove(t, x.words, b, l, 1, x.move), want)
		}
	}
}

// P12.1: to sync all is of all other ports, and not of the port itself; to reroot all is of that too; whatever the others are.
func TestToAll(t *testing.T) {
	for n := 1; n <= 5; n++ {
		for at := range n {
			for role := range 5 {
				l := make([]state.Port, n)
				for other := range l {
					l[other] = bare(other % 7)
					l[other].Ready, l[other].Update = other%2 == 0, other%3 == 0
				}
				name := strconv.Itoa(at) + " of " + strconv.Itoa(n) + " of role " + strconv.Itoa(role)
				l[at] = still(role)
				l[at].Proposed, l[at].Agree = true, false
				if role == 1 || role == 3 || role == 4 {
					checkToAll(t, name, l, at, func(l []state.Port) { l[at].Proposed = false }, func(p *state.Port) *bool { return &p.Sync }, false)
				}
				if role == 1 {
					l[at] = still(1)
					l[at].Forward = false
					checkToAll(t, name, l, at, func([]state.Port) {}, func(p *state.Port) *bool { return &p.Reroot }, true)
				}
			}
		}
	}
}

func checkToAll(t *testing.T, name string, l []state.Port, at int, besides func(l []state.Port), flag func(p *state.Port) *bool, itself bool) {
	t.Helper()
	want := slices.Clone(l)
	besides(want)
	for every := range want {
		if every != at || itself {
			*flag(&want[every]) = true
		}
	}
	got, ok := Move(usual(), l, at)
	if !ok {
		t.Error(name, "doesn't move")
	}
	checkPorts(t, name, got, want)
}

// P12.1: without other ports all others are synced, and rerooted.
func TestAlone(t *testing.T) {
	for _, x := range []struct {
		role  int
		words string
		move  int
	}{
		{3, "-Agree", 4}, {4, "-Agree", 4}, {1, "-Agree", 8},
		{1, "-Agree -Synced", 8}, {1, "-Learn +SendRstp Rb=0", 13},
		{3, "-Agree +Proposed", 3}, {1, "-Agree +Proposed", 7}, {1, "-Forward", 10},
	} {
		l := edit(among(still(x.role)), x.words)[1:2:2]
		checkMove(t, strconv.Itoa(x.role)+" "+x.words, usual(), l, 0, x.move)
	}
}

// asked is the number of the move that the chapter has port at do, 0 for none: all that each asks in one line, as the chapter has it.
func asked(b info.Bridge, l []state.Port, at int) int {
	p, times := l[at], b.Times
	allSynced, allRerooted := true, true
	for other, q := range l {
		if other == at {
			continue
		}
		if !q.Ready || q.Role != q.Selected || q.Role != 1 && !q.Synced {
			allSynced = false
		}
		if q.Rr != 0 && q.Role != 1 {
			allRerooted = false
		}
	}
	off := !p.Learning && !p.Forwarding
	should := times.Delay
	if p.Role == 0 {
		should = times.Max
	}
	of34 := p.Role == 3 || p.Role == 4
	of034 := p.Role == 0 || of34
	agrees := allSynced && !p.Agree || p.Proposed && p.Agree
	opens := !p.Learn || p.Learn && !p.Forward
	like := p.Role == p.Selected
	for at, asks := range []bool{
		!p.Ready || p.Update,
		!like && (p.Selected == 0 || p.Selected == 3 || p.Selected == 4),
		!like && (p.Selected == 1 || p.Selected == 2),
		like && of34 && off && p.Proposed && !p.Agree,
		like && of34 && agrees,
		like && of034 && off && (p.Fd != should || p.Sync || p.Reroot || !p.Synced),
		like && p.Role == 4 && p.Rb != 2*times.Hello,
		like && p.Role == 1 && p.Proposed && !p.Agree,
		like && p.Role == 1 && agrees,
		like && p.Role == 1 && (p.Agreed && !p.Synced || p.Sync && p.Synced),
		like && p.Role == 1 && !p.Forward && !p.Reroot,
		like && p.Role == 1 && p.Rr != times.Delay,
		like && p.Role == 1 && p.Reroot && p.Forward,
		like && p.Role == 1 && (p.Fd == 0 || allRerooted && p.Rb == 0 && p.SendRstp) && opens,
		like && p.Role == 2 && !p.Forward && !p.Agreed && !p.Proposing && !p.Oper && p.SendRstp,
		like && p.Role == 2 && (!p.Synced && (off || p.Agreed || p.Oper) || p.Sync && p.Synced),
		like && p.Role == 2 && p.Rr == 0 && p.Reroot,
		like && p.Role == 2 && (p.Sync && !p.Synced || p.Reroot && p.Rr != 0 || p.Disputed) && !p.Oper && (p.Learn || p.Forward),
		like && p.Role == 2 && (p.Fd == 0 || p.Agreed || p.Oper) && (p.Rr == 0 || !p.Reroot) && !p.Sync && !p.Disputed && opens,
	} {
		if asks {
			return at
		}
	}
	return 0
}

// mixed is a port with each bool on or off at random, and timers near what moves ask for.
func mixed(r *rand.Rand, b info.Bridge) state.Port {
	role := r.Intn(5)
	p := bare(role)
	v := reflect.ValueOf(&p).Elem()
	for at := range v.NumField() {
		if v.Field(at).Kind() == reflect.Bool {
			v.Field(at).SetBool(r.Intn(2) == 1)
		}
	}
	p.Ready, p.Update = r.Intn(8) > 0, r.Intn(8) == 0
	if r.Intn(6) == 0 {
		p.Selected = r.Intn(8) - 2
	}
	near := []int{0, 0, -1, 1, 2, 4, b.Times.Delay, b.Times.Delay, b.Times.Max, 2 * b.Times.Hello}
	for _, timer := range []*int{&p.Fd, &p.Rr, &p.Rb} {
		*timer = near[r.Intn(len(near))]
	}
	return p
}

func mixedPorts(r *rand.Rand, b info.Bridge) []state.Port {
	var l []state.Port
	for range r.Intn(5) {
		p := mixed(r, b)
		p.Id = uint64(len(l) + 1)
		if r.Intn(2) == 0 {
			p.Ready, p.Synced, p.Rr = true, true, 0
		}
		l = append(l, p)
	}
	return l
}

// mixedBridge is one that is right.
func mixedBridge(r *rand.Rand) info.Bridge {
	return info.Bridge{Id: 9, Times: state.Times{Max: 6 + r.Intn(35), Hello: 1 + r.Intn(2), Delay: 4 + r.Intn(27)}}
}

// P12.1: the first move that the chapter has is the one that is done, over ports of all sorts; each of them is met.
func TestMovesOfAllSorts(t *testing.T) {
	r := rand.New(rand.NewSource(12))
	met := make([]int, 19)
	for range 60000 {
		b := mixedBridge(r)
		l := mixedPorts(r, b)
		for at := range l {
			move := asked(b, l, at)
			met[move]++
			if got, ok := Move(b, l, at); ok != (move != 0) || !slices.Equal(got, moved(b, l, at, move)) {
				checkMove(t, "all sorts", b, l, at, move)
				t.Fatalf("move %d of port %d of %+v %+v", move, at, b, l)
			}
		}
	}
	if slices.Contains(met, 0) {
		t.Error("not met:", met)
	}
}

// P12.1: one step of a port's state, of all that there are.
func TestState(t *testing.T) {
	on := []bool{false, true}
	for _, learn := range on {
		for _, forward := range on {
			for _, learning := range on {
				for _, forwarding := range on {
					for _, p := range []state.Port{{}, bare(1), still(2), bare(9)} {
						p.Learn, p.Forward, p.Learning, p.Forwarding = learn, forward, learning, forwarding
						want := p
						switch {
						case !learn:
							want.Learning, want.Forwarding = false, false
						case !forward:
							want.Learning, want.Forwarding = true, false
						case !learning:
							want.Learning = true
						default:
							want.Forwarding = true
						}
						checkPorts(t, "state", []state.Port{State(p)}, []state.Port{want})
					}
				}
			}
		}
	}
}

// P12.1: a state goes its way whether or not the port moves.
func TestStateSteps(t *testing.T) {
	p := State(state.Port{Learn: true, Forward: true})
	if !p.Learning || p.Forwarding {
		t.Error("learns first", p)
	}
	if p = State(p); !p.Learning || !p.Forwarding {
		t.Error("then forwards", p)
	}
	if p = State(p); !p.Learning || !p.Forwarding {
		t.Error("and goes on", p)
	}
	p.Forward = false
	if p = State(p); !p.Learning || p.Forwarding {
		t.Error("learns still", p)
	}
	p.Forward, p.Forwarding, p.Learn = true, true, false
	if p = State(p); p.Learning || p.Forwarding {
		t.Error("does neither", p)
	}
}

// P12.1: in a pass a port sees what those ahead of it did, and not what those behind it do.
func TestPassOrder(t *testing.T) {
	asker := edit(among(still(1)), "+Proposed -Agree")[1]
	synced := edit(among(still(2)), "Rr=9")[1]
	askerBehind := asker
	askerBehind.Proposed = false

	first := synced
	first.Rr = 0
	got, ok := Pass(usual(), []state.Port{asker, synced})
	checkPorts(t, "asked, then synced", got, []state.Port{askerBehind, first})
	if !ok {
		t.Error("asked, then synced: nothing changed")
	}
	second := synced
	second.Sync = true
	got, ok = Pass(usual(), []state.Port{synced, asker})
	checkPorts(t, "asked behind it", got, []state.Port{second, askerBehind})
	if !ok {
		t.Error("asked behind it: nothing changed")
	}
}

// P12.1: one that comes to be synced ahead of the root port has it agree in the same pass; behind it, in the next one.
func TestPassOrderOfAgreement(t *testing.T) {
	root := edit(among(still(1)), "-Agree")[1]
	other := edit(among(still(2)), "-Synced")[1]
	agrees, synced := root, other
	agrees.Agree, agrees.NewInfo = true, true
	synced.Synced, synced.Rr = true, 0

	got, ok := Pass(usual(), []state.Port{other, root})
	checkPorts(t, "synced, then agrees", got, []state.Port{synced, agrees})
	if !ok {
		t.Error("synced, then agrees: nothing changed")
	}
	l := []state.Port{root, other}
	for _, want := range [][]state.Port{{root, synced}, {agrees, synced}} {
		l, ok = Pass(usual(), l)
		checkPorts(t, "agrees behind it", l, want)
		if !ok {
			t.Error("agrees behind it: nothing changed")
		}
	}
}

// P12.1: a port's state follows its own move in the same pass, and only one move is done.
func TestPassMovesOnce(t *testing.T) {
	p := edit(among(still(2)), "Fd=0 +Oper -Proposing -Synced")[1]
	l := []state.Port{p}
	for at, words := range []string{"+Synced Rr=0", "+Learn +Learning Fd=15", "+Forward +Forwarding Fd=0 +Agreed", ""} {
		if at == 2 {
			p.SendRstp = true
			l[0].SendRstp = true
		}
		p = edit(among(p), words)[1]
		next, ok := Pass(usual(), l)
		checkPorts(t, "pass "+strconv.Itoa(at), next, []state.Port{p})
		if ok != (words != "") {
			t.Errorf("pass %d: %v", at, ok)
		}
		l = next
	}
}

// P12.1: a pass that changes nothing says so; one in which the state alone changes says that it did.
func TestPassChanges(t *testing.T) {
	l := []state.Port{still(2), still(1), still(0), still(3), still(4)}
	got, ok := Pass(usual(), l)
	checkPorts(t, "still", got, l)
	if ok {
		t.Error("still ports changed")
	}
	for _, words := range []string{"-Learning", "-Forwarding", "-Learning -Forwarding", "-Ready -Forwarding", "+Update -Learning", "-Ready +Update -Learning -Forwarding"} {
		l := edit(among(still(1)), words)
		want := slices.Clone(l)
		want[1] = State(want[1])
		got, ok := Pass(usual(), l)
		checkPorts(t, words, got, want)
		if !ok {
			t.Error(words, "changes nothing")
		}
	}
}

// P12.1: no port is a pass that changes nothing, and a rest.
func TestNoPort(t *testing.T) {
	for _, l := range [][]state.Port{nil, {}} {
		if got, ok := Pass(usual(), l); len(got) != 0 || ok {
			t.Error("pass", got, ok)
		}
		if got, n := Rest(usual(), l); len(got) != 0 || n != 0 {
			t.Error("rest", got, n)
		}
	}
}

// P12.1: a pass is of each port its move, then its state; a rest is of passes.
func TestPassesOfAllSorts(t *testing.T) {
	r := rand.New(rand.NewSource(13))
	for range 20000 {
		b := mixedBridge(r)
		l := mixedPorts(r, b)
		want := slices.Clone(l)
		for at := range want {
			want = moved(b, want, at, asked(b, want, at))
			want[at] = State(want[at])
		}
		got, ok := Pass(b, l)
		if ok == slices.Equal(got, l) || !slices.Equal(got, want) {
			checkPorts(t, "pass", got, want)
			t.Fatalf("%v %+v", ok, l)
		}
		checkRest(t, b, l)
	}
}

func checkRest(t *testing.T, b info.Bridge, l []state.Port) {
	t.Helper()
	want, changes := l, 0
	for changes < 300 {
		next, ok := Pass(b, want)
		if !ok {
			break
		}
		want, changes = next, changes+1
	}
	got, n := Rest(b, l)
	if n != changes || n >= 200 || !slices.Equal(got, want) {
		checkPorts(t, "rest", got, want)
		t.Fatalf("%d passes, want %d", n, changes)
	}
}

// P12.1: a rest at once, and behind some passes.
func TestRest(t *testing.T) {
	l := []state.Port{still(2), still(1), still(0), still(3), still(4)}
	got, n := Rest(usual(), l)
	checkPorts(t, "at once", got, l)
	if n != 0 {
		t.Error("at once:", n)
	}
	// An edge port comes to its role, is synced, learns, and forwards.
	p := state.New(1, 20000, true)
	p.Ready, p.Selected = true, 2
	want := p
	want.Role, want.Synced, want.Agreed = 2, true, true
	want.Learn, want.Learning, want.Forward, want.Forwarding = true, true, true, true
	got, n = Rest(usual(), []state.Port{p})
	checkPorts(t, "edge", got, []state.Port{want})
	if n != 4 {
		t.Error("edge:", n)
	}
}

// P12.1: a rest that doesn't come is given up behind 200 passes. (Of ports it always comes, and soon: no move turns Proposed on, nor Agree, Proposing or Synced off, nor Forward of a root port. So the passes here are made up.)
func TestRestThatDoesNotCome(t *testing.T) {
	passes := 0
	tells := func(until int) func(l []state.Port) ([]state.Port, bool) {
		passes = 0
		return func(l []state.Port) ([]state.Port, bool) {
			passes++
			out := slices.Clone(l)
			out[0].Fd++
			return out, passes <= until
		}
	}
	for _, x := range []struct{ until, changes, passes int }{
		{0, 0, 1}, {1, 1, 2}, {7, 7, 8}, {198, 198, 199}, {199, 199, 200}, {200, 200, 200}, {201, 200, 200}, {math.MaxInt, 200, 200},
	} {
		l, n := repeat([]state.Port{{}}, tells(x.until))
		if n != x.changes || passes != x.passes || l[0].Fd != x.passes {
			t.Errorf("%d: %d changes in %d passes, %+v", x.until, n, passes, l)
		}
	}
}

// P12.1: many ports rest too, and soon.
func TestRestOfMany(t *testing.T) {
	r := rand.New(rand.NewSource(14))
	for range 20 {
		b := mixedBridge(r)
		var l []state.Port
		for range 150 {
			l = append(l, mixed(r, b))
		}
		checkRest(t, b, l)
	}
}

// P12.1: a root port that was proposed to has the others synced, agrees, and forwards; they propose in their turn.
func TestProposal(t *testing.T) {
	b := usual()
	root := state.Port{Id: 1, Ready: true, Role: 1, Selected: 1, SendRstp: true, Proposed: true}
	other := state.Port{Id: 2, Ready: true, Role: 2, Selected: 2, SendRstp: true, Learn: true, Learning: true, Forward: true, Forwarding: true}
	edge := state.Port{Id: 3, Ready: true, Role: 2, Selected: 2, SendRstp: true, Learn: true, Learning: true, Forward: true, Forwarding: true, Oper: true}
	l, n := Rest(b, []state.Port{root, other, edge})
	if n == 0 || n >= 200 {
		t.Error(n)
	}
	if !l[0].Forwarding || !l[0].Agree || l[0].Proposed || !l[0].NewInfo {
		t.Errorf("root %+v", l[0])
	}
	if l[1].Forwarding || l[1].Learning || !l[1].Proposing || !l[1].NewInfo || l[1].Edge != 3 || l[1].Fd != 15 {
		t.Errorf("other %+v", l[1])
	}
	if !l[2].Forwarding || l[2].Proposing {
		t.Errorf("edge %+v", l[2])
	}
}

// P12.1: as layer 11 has it: a port that hears nothing forwards when its Fd has run down twice, and not before.
func TestForwardsByTime(t *testing.T) {
	b := usual()
	run := func(l []state.Port) []state.Port {
		l, _ = info.Choose(b, l)
		for at := range l {
			l[at] = info.Settle(l[at])
		}
		l, _ = Rest(b, l)
		return l
	}
	p := state.New(1, 20000, false)
	p.Reselect = true
	l := run([]state.Port{p})
	if l[0].Fd != 20 || l[0].Learning {
		t.Fatalf("disabled %+v", l[0])
	}
	l = run([]state.Port{info.Power(l[0], true)})
	for tick := 0; tick <= 40; tick++ {
		if learns, forwards := tick >= 20, tick >= 35; l[0].Role != 2 || l[0].Learning != learns || l[0].Forwarding != forwards {
			t.Errorf("tick %d: %+v", tick, l[0])
		}
		l = run([]state.Port{state.Tick(l[0])})
	}
}

// P12.2: behind a pass no port forwards that doesn't learn; one that isn't to learn does neither; behind a rest too.
func TestSafe(t *testing.T) {
	r := rand.New(rand.NewSource(15))
	check := func(l []state.Port) {
		t.Helper()
		for _, p := range l {
			if p.Forwarding && !p.Learning || !p.Learn && (p.Learning || p.Forwarding) || p.Forwarding && !p.Forward {
				t.Errorf("%+v", p)
			}
		}
	}
	bridges := wrong()
	for at := range 20000 {
		b := mixedBridge(r)
		if at%10 == 0 {
			b = bridges[r.Intn(len(bridges))]
		}
		l := mixedPorts(r, b)
		for range 6 {
			l, _ = Pass(b, l)
			check(l)
			for at := range l {
				l[at] = state.Tick(l[at])
			}
		}
		l, _ = Rest(b, l)
		check(l)
	}
}

// P12.1: what names a port, what it was told and chosen, and what other layers count, stays.
func TestWhatStays(t *testing.T) {
	goes := strings.Fields("Role Learn Learning Forward Forwarding Agree Agreed Proposed Proposing Sync Synced Reroot Disputed NewInfo Fd Rr Rb Edge")
	stays := func(got, was []state.Port) {
		t.Helper()
		if len(got) != len(was) {
			t.Fatal("other ports")
		}
		for at := range got {
			g, w := reflect.ValueOf(got[at]), reflect.ValueOf(was[at])
			for field := range g.NumField() {
				name := g.Type().Field(field).Name
				if !slices.Contains(goes, name) && !g.Field(field).Equal(w.Field(field)) {
					t.Errorf("%s went from %v to %v", name, w.Field(field), g.Field(field))
				}
			}
		}
	}
	r := rand.New(rand.NewSource(16))
	for range 5000 {
		b := mixedBridge(r)
		l := mixedPorts(r, b)
		for at := range l {
			got, _ := Move(b, l, at)
			stays(got, l)
		}
		got, _ := Rest(b, l)
		stays(got, l)
	}
}

// What is handed in stays, with its spare room, and an answer is new memory: it is changed here, and nothing else is.
func TestFresh(t *testing.T) {
	spare := bare(7)
	calls := []func(b info.Bridge, l []state.Port) []state.Port{
		func(b info.Bridge, l []state.Port) []state.Port { l, _ = Pass(b, l); return l },
		func(b info.Bridge, l []state.Port) []state.Port { l, _ = Rest(b, l); return l },
	}
	for _, at := range []int{-1, 0, 1, 2, 3} {
		calls = append(calls, func(b info.Bridge, l []state.Port) []state.Port { l, _ = Move(b, l, at); return l })
	}
	starts := [][]state.Port{among(still(1)), edit(among(still(1)), "-Forward"), edit(among(still(3)), "+Proposed -Agree"), edit(among(still(2)), "Fd=0"), {}}
	for _, b := range []info.Bridge{usual(), {}} {
		for _, start := range starts {
			for at, call := range calls {
				room := append(slices.Clone(start), spare, spare)
				l := room[:len(start)]
				got := call(b, l)
				for port := range got {
					got[port] = state.Port{Id: 77}
				}
				got = append(got, state.Port{Id: 77})
				if len(got) != len(start)+1 || !slices.Equal(room, append(slices.Clone(start), spare, spare)) {
					t.Errorf("call %d of %d ports changed what was handed in", at, len(start))
				}
			}
		}
	}
}

// The same is answered to the same, however often it is asked.
func TestSameAgain(t *testing.T) {
	r := rand.New(rand.NewSource(17))
	for range 200 {
		b := mixedBridge(r)
		l := mixedPorts(r, b)
		first, n := Rest(b, l)
		second, m := Rest(b, l)
		if n != m || !slices.Equal(first, second) {
			t.Errorf("%+v", l)
		}
	}
}
