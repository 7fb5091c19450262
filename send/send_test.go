package send

import (
	"math"
	"math/rand"
	"reflect"
	"slices"
	"strconv"
	"strings"
	"testing"

	"treebridge/api"
	"treebridge/bpdu"
	"treebridge/info"
	"treebridge/state"
)

// The numbers are told by hand, not taken from the package.

// usual is a bridge of the times that are usual.
func usual() info.Bridge {
	return info.Bridge{Id: 9, Times: state.Times{Max: 20, Hello: 2, Delay: 15}}
}

func vec(root, cost, bridge, port uint64) api.Vector {
	return api.Vector{Root: root, Cost: cost, Bridge: bridge, Port: port}
}

// bare has no bool that is on, nothing that is zero but what words turn, and no two numbers that are the same.
func bare() state.Port {
	return state.Port{
		Id: 0x8001, Cost: 20000,
		Source: 7,
		Vector: vec(101, 102, 103, 104),
		Times:  state.Times{Age: 111, Max: 112, Hello: 113, Delay: 114},
		Offer:  vec(121, 122, 123, 124),
		Given:  state.Times{Age: 11, Max: 12, Hello: 13, Delay: 14},
		Role:   40, Selected: 41,
		Fd: 21, Rr: 22, Rb: 23, Tc: 24, Edge: 25, Md: 26, Info: 27, Hello: 28,
		TxCount: 5,
		Change:  31, Migrate: 32,
	}
}

// edit changes a port as words tell: "+Learn" is on, "-Learn" is off, "Md=3" is 3, "Given.Age=3" is 3 in Given.
func edit(p state.Port, words string) state.Port {
	v := reflect.ValueOf(&p).Elem()
	for _, word := range strings.Fields(words) {
		if name, n, ok := strings.Cut(word, "="); ok {
			f := v
			for _, part := range strings.Split(name, ".") {
				f = f.FieldByName(part)
			}
			f.SetInt(int64(number(n)))
			continue
		}
		v.FieldByName(word[1:]).SetBool(word[0] == '+')
	}
	return p
}

func number(s string) int {
	n, err := strconv.Atoi(s)
	if err != nil {
		panic(err)
	}
	return n
}

func checkPort(t *testing.T, name string, got, want state.Port) {
	t.Helper()
	g, w := reflect.ValueOf(got), reflect.ValueOf(want)
	for field := range g.NumField() {
		if !g.Field(field).Equal(w.Field(field)) {
			t.Errorf("%s: %s is %v, want %v", name, g.Type().Field(field).Name, g.Field(field), w.Field(field))
		}
	}
}

// What becomes of a port that checks, senses, or comes to speak the old tongue.
const (
	checks = "Migrate=0 -Check +SendRstp Md=3"
	senses = "Migrate=2 -HeardRstp -HeardStp"
	oldOne = "-SendRstp Md=3 Migrate=1"
	stays  = ""
)

// allOn has each bool on that no condition of a tongue asks for.
const allOn = " +Admin +Oper +Ready +Update +Reselect +Learn +Learning +Forward +Forwarding +Agree +Agreed +Proposed +Proposing +Sync +Synced +Reroot +Disputed" +
	" +NewInfo +HeardTc +HeardTcn +HeardAck +TcAck +TcProp +Flush"

// turn is what is turned about, and what becomes of the port then.
type turn struct{ words, behind string }

// P14.1: of each of the three, what applies just so, and each condition turned about, alone and with others.
func TestTongue(t *testing.T) {
	for _, x := range []struct {
		words, behind string
		turns         []turn
	}{
		{"Migrate=0 Md=3", stays, []turn{ // off, and it checked already
			{"Md=2", checks}, {"Md=4", checks}, {"Md=1", checks}, {"Md=0", checks}, {"Md=-1", checks}, {"Md=-3", checks}, {"Md=26", checks},
			{"+On", stays}, {"+On Md=0", senses}, {"+Check", stays}, {"+SendRstp", stays}, {"+HeardRstp", stays}, {"+HeardStp", stays},
			{"+Check +SendRstp +HeardRstp +HeardStp", stays}, {"+HeardRstp -SendRstp", stays}, {"+HeardStp +SendRstp", stays},
		}},
		{"Migrate=0 Md=2 +Check +HeardRstp +HeardStp", checks, []turn{
			{"-Check", checks}, {"-HeardRstp", checks}, {"-HeardStp", checks}, {"+SendRstp", checks}, {"Md=3", stays}, {"Md=0", checks}, {"Md=0 -Check", checks}, {"+On", stays}, {"+On Md=3", stays}, {"+On Md=0", senses},
		}},
		{"Migrate=0 Md=0 +On +HeardRstp +HeardStp", senses, []turn{
			{"-On", checks}, {"Md=1", stays}, {"Md=2", stays}, {"Md=3", stays}, {"Md=4", stays}, {"Md=-1", stays}, {"-On Md=3", stays},
			{"-HeardRstp", senses}, {"-HeardStp", senses}, {"-HeardRstp -HeardStp", senses}, {"+Check", senses}, {"+SendRstp", senses}, {"+Check +SendRstp", senses},
		}},
		{"Migrate=0 Md=1 +On +Check", stays, []turn{
			{"+HeardRstp", stays}, {"+SendRstp +HeardStp", stays}, {"+SendRstp", stays}, {"-Check", stays}, {"Md=0", senses}, {"-On", checks},
		}},
		{"Migrate=1 Md=1 +On +HeardRstp +HeardStp", stays, []turn{
			{"Md=0", senses}, {"-On", senses}, {"+Check", senses}, {"Md=0 -On", senses}, {"Md=0 +Check", senses}, {"-On +Check", senses}, {"Md=0 -On +Check", senses},
			{"Md=3", stays}, {"Md=2", stays}, {"Md=4", stays}, {"Md=-1", stays}, {"Md=3 -On", senses}, {"Md=3 +Check", senses}, {"Md=-1 -On", senses},
			{"+SendRstp", stays}, {"-HeardRstp", stays}, {"-HeardStp", stays}, {"+SendRstp -HeardRstp", stays}, {"+SendRstp Md=0", senses}, {"-HeardRstp -HeardStp Md=0", senses},
		}},
		{"Migrate=2 Md=1 +On", stays, []turn{
			{"-On", checks}, {"+Check", checks}, {"+HeardRstp", checks}, {"-On +Check +HeardRstp", checks}, {"+HeardStp", stays}, {"+HeardStp +HeardRstp", checks},
			{"+SendRstp", stays}, {"+SendRstp +HeardRstp", stays}, {"+SendRstp +HeardStp", oldOne}, {"+SendRstp +HeardStp +HeardRstp", oldOne},
			{"Md=0", stays}, {"Md=3", stays}, {"Md=-1", stays}, {"Md=0 +SendRstp", stays},
		}},
		{"Migrate=2 Md=0 +On +SendRstp +HeardStp", oldOne, []turn{
			{"-On", checks}, {"+Check", checks}, {"-SendRstp", stays}, {"-HeardStp", stays}, {"-SendRstp +HeardRstp", checks}, {"+HeardRstp", oldOne},
			{"-On +Check", checks}, {"+HeardRstp -On", checks}, {"+HeardRstp +Check", checks}, {"Md=1", oldOne}, {"Md=3", oldOne}, {"Md=-1", oldOne},
		}},
	} {
		for _, others := range []string{"", allOn} {
			start := edit(bare(), x.words+others)
			checkPort(t, x.words+others, Tongue(start), edit(start, x.behind))
			for _, y := range x.turns {
				p := edit(start, y.words)
				checkPort(t, x.words+others+" | "+y.words, Tongue(p), edit(p, y.behind))
			}
		}
	}
}

// P14.1: a Migrate that is none of the three stays, whatever else the port is.
func TestNoMigrate(t *testing.T) {
	for _, migrate := range []int{math.MinInt, -256, -2, -1, 3, 4, 32, 255, 256, 257, 258, 1 << 32, 1<<32 + 1, 1<<32 + 2, math.MaxInt} {
		for _, words := range []string{
			"", "Md=0", "+On Md=0", "Md=2", "+On +Check", "+On +HeardRstp", "+On +SendRstp +HeardStp", "+Check Md=0", "+On +Check Md=0 +SendRstp +HeardStp +HeardRstp",
		} {
			p := edit(bare(), words+" Migrate="+strconv.Itoa(migrate))
			checkPort(t, strconv.Itoa(migrate)+" "+words, Tongue(p), p)
		}
	}
}

// behindTongue is what becomes of a port, by all that each asks for in one line, as the chapter has it.
func behindTongue(p state.Port) string {
	for _, x := range []struct {
		asks   bool
		behind string
	}{
		{p.Migrate == 0 && !p.On && p.Md != 3, checks},
		{p.Migrate == 0 && !(!p.On && p.Md != 3) && p.Md == 0, senses},
		{p.Migrate == 1 && (p.Md == 0 || !p.On || p.Check), senses},
		{p.Migrate == 2 && (!p.On || p.Check || !p.SendRstp && p.HeardRstp), checks},
		{p.Migrate == 2 && p.SendRstp && p.HeardStp, oldOne},
	} {
		if x.asks {
			return x.behind
		}
	}
	return stays
}

// P14.1: the first one that applies is done, of all ports that may differ in it, with all else of them at random.
func TestTongueOfAllPorts(t *testing.T) {
	r := rand.New(rand.NewSource(21))
	bools := strings.Fields("On Check SendRstp HeardRstp HeardStp")
	met := map[string]int{}
	for migrate := -1; migrate <= 3; migrate++ {
		for md := -2; md <= 5; md++ {
			for set := range 1 << len(bools) {
				words := "Migrate=" + strconv.Itoa(migrate) + " Md=" + strconv.Itoa(md)
				for at, name := range bools {
					words += " " + string("-+"[set>>at&1]) + name
				}
				for range 4 {
					p := edit(mixed(r), words)
					behind := behindTongue(p)
					met[behind]++
					checkPort(t, words, Tongue(p), edit(p, behind))
				}
			}
		}
	}
	for _, behind := range []string{checks, senses, oldOne, stays} {
		if met[behind] == 0 {
			t.Error("not met:", behind)
		}
	}
}

// P14.1: a port's way through its tongues: on, it hears the old one, speaks it, and comes back to the rapid one when it is to check, or hears that.
func TestTongueOverTime(t *testing.T) {
	p := state.New(1, 1, false)
	for at, x := range []struct {
		words   string // what happens, behind so many ticks
		ticks   int
		migrate int
		rapid   bool
		md      int
	}{
		{"", 0, 0, true, 3},                      // off: it checks
		{"", 0, 0, true, 3},                      // and again nothing
		{"", 1, 0, true, 3},                      // it is off still
		{"+On", 0, 0, true, 3},                   //
		{"+HeardStp", 2, 0, true, 1},             // what it hears now isn't heeded
		{"", 1, 2, true, 0},                      // it senses, and what it heard is gone
		{"", 5, 2, true, 0},                      //
		{"+HeardStp", 0, 1, false, 3},            // the old one is spoken
		{"+HeardRstp", 2, 1, false, 1},           // kept for a while
		{"", 1, 2, false, 0},                     // then it senses
		{"+HeardStp", 1, 2, false, 0},            // who speaks it already stays so
		{"+HeardRstp", 1, 0, true, 3},            // and here is one that speaks the rapid one
		{"", 3, 2, true, 0},                      //
		{"+HeardStp", 0, 1, false, 3},            //
		{"+Check", 0, 2, false, 3},               // it is to check: it senses first
		{"", 0, 0, true, 3},                      // then it checks
		{"", 3, 2, true, 0},                      //
		{"+HeardStp +HeardRstp", 0, 1, false, 3}, // both: it speaks what both hear
		{"-On", 0, 2, false, 3},                  // off: it senses, then checks
		{"", 0, 0, true, 3},                      //
	} {
		for range x.ticks {
			p = state.Tick(p)
		}
		p = edit(p, x.words)
		p = Tongue(p)
		if p.Migrate != x.migrate || p.SendRstp != x.rapid || p.Md != x.md {
			t.Errorf("%d: Migrate %d, SendRstp %v, Md %d", at, p.Migrate, p.SendRstp, p.Md)
		}
	}
	if p.Check || p.HeardRstp || p.HeardStp {
		t.Errorf("%+v", p)
	}
}

// P14.1: a port comes to be an edge, or not, with each of the five turned about; all else stays.
func TestEdge(t *testing.T) {
	start := "+On +Proposing +SendRstp Edge=0"
	for _, others := range []string{
		"", " +Admin +Ready +Update +Reselect +Learn +Learning +Forward +Forwarding +Agree +Agreed +Proposed +Sync +Synced +Reroot +Disputed +NewInfo +HeardRstp +HeardStp +Check +Flush",
		" Role=2", " Role=0", " Md=0 Hello=0 Info=0", " Migrate=0", " TxCount=6", " Source=0",
	} {
		for _, x := range []struct {
			words string
			comes bool
		}{
			{"", true}, {"-On", false}, {"-Proposing", false}, {"-SendRstp", false}, {"Edge=1", false}, {"Edge=3", false}, {"Edge=-1", false}, {"Edge=256", false},
			{"-On -Proposing", false}, {"-SendRstp Edge=1", false}, {"-On -Proposing -SendRstp Edge=1", false}, {"-Proposing Edge=1", false}, {"-Admin", true}, {"+Admin", true},
		} {
			p := edit(bare(), start+others+" "+x.words)
			want := p
			want.Oper = x.comes
			checkPort(t, others+" | "+x.words, Edge(p), want)
			// One that is an edge already stays as it is.
			p.Oper = true
			checkPort(t, others+" | +Oper "+x.words, Edge(p), p)
		}
	}
}

// P14.1: it is one behind as many ticks as Edge tells, and not before.
func TestEdgeOverTime(t *testing.T) {
	p := edit(state.New(1, 1, false), "+On +Proposing Edge=3")
	for tick := range 3 {
		if p = Edge(p); p.Oper {
			t.Error("an edge at", tick)
		}
		p = state.Tick(p)
	}
	if p = Edge(p); !p.Oper {
		t.Error("no edge")
	}
}

// fineOf is a time as a BPDU has it, told without multiplying what may go round.
func fineOf(n int) int {
	switch {
	case n < 0:
		return 0
	case n >= 256:
		return 65535
	}
	return n * 256
}

// model is what the chapter has Send do, told in other words.
func model(b info.Bridge, p state.Port) (state.Port, bpdu.Bpdu, bool) {
	none := bpdu.Bpdu{}
	t := b.Times
	if right := t.Age == 0 && t.Max >= 6 && t.Max <= 40 && (t.Hello == 1 || t.Hello == 2) && t.Delay >= 4 && t.Delay <= 30; !right {
		return p, none, false
	}
	if !(p.On && p.Ready && !p.Update) {
		return p, none, false
	}
	if p.Hello == 0 {
		p.Hello = t.Hello
		if p.Role == 2 {
			p.NewInfo = true
		}
		if p.Role == 1 && p.Tc != 0 {
			p.NewInfo = true
		}
	}
	if !p.NewInfo || p.TxCount > 5 {
		return p, none, false
	}
	p.NewInfo = false
	m := bpdu.Bpdu{Vector: p.Offer, Age: fineOf(p.Given.Age), Max: fineOf(p.Given.Max), Hello: fineOf(p.Given.Hello), Delay: fineOf(p.Given.Delay)}
	bit := func(at int, on bool) {
		if on {
			m.Flags += 1 << at
		}
	}
	bit(0, p.Tc > 0)
	switch {
	case p.SendRstp && (p.Role == 1 || p.Role == 2 || p.Role == 3 || p.Role == 4):
		m.Kind = 3
		bit(1, p.Proposing)
		m.Flags += map[int]int{1: 2, 2: 3, 3: 1, 4: 1}[p.Role] * 4
		bit(4, p.Learning)
		bit(5, p.Forwarding)
		bit(6, p.Agree)
		p.TcAck = false
	case !p.SendRstp && p.Role == 2:
		m.Kind = 1
		bit(7, p.TcAck)
		p.TcAck = false
	case !p.SendRstp && p.Role == 1:
		m = bpdu.Bpdu{Kind: 2}
	default:
		return p, none, false
	}
	p.TxCount++
	return p, m, true
}

// checkSend has p send, and answers what that did, held against the chapter.
func checkSend(t *testing.T, name string, b info.Bridge, p state.Port) (state.Port, bpdu.Bpdu, bool) {
	t.Helper()
	was := p
	got, m, ok := Send(b, p)
	wantPort, want, wantOk := model(b, p)
	if m != want || ok != wantOk {
		t.Errorf("%s: sends %+v, %v, want %+v, %v", name, m, ok, want, wantOk)
	}
	checkPort(t, name, got, wantPort)
	checkPort(t, name+" handed in", p, was)
	return got, m, ok
}

// ready is a designated port that has something to send.
func ready() state.Port { return edit(bare(), "+On +Ready +SendRstp +NewInfo Role=2") }

// checkStays has p send nothing, and stay as it is.
func checkStays(t *testing.T, name string, b info.Bridge, p state.Port) {
	t.Helper()
	got, m, ok := Send(b, p)
	if ok || m != (bpdu.Bpdu{}) {
		t.Errorf("%s: sends %+v, %v", name, m, ok)
	}
	checkPort(t, name, got, p)
}

// P14.1: one that is off, not ready, or to update sends nothing, and stays, also where its Hello is 0.
func TestSendsNotWhereItIsnt(t *testing.T) {
	for _, others := range []string{"", "Hello=0", "Hello=0 -NewInfo", "-NewInfo", "TxCount=0", "-SendRstp", "-SendRstp Role=1 Hello=0", "Role=1 Hello=0 +TcAck", "Role=3", "+TcAck +Proposing"} {
		for _, words := range []string{"-On", "-Ready", "+Update", "-On -Ready", "-On +Update", "-Ready +Update", "-On -Ready +Update"} {
			checkStays(t, others+" | "+words, usual(), edit(ready(), others+" "+words))
		}
	}
	if _, _, ok := checkSend(t, "ready", usual(), ready()); !ok {
		t.Error("ready sends nothing")
	}
}

// P14.1: of a bridge that isn't right the port stays, by each of its times; at the least and the greatest ones it sends.
func TestWrongBridge(t *testing.T) {
	for _, times := range []state.Times{
		{}, {Max: 5, Hello: 2, Delay: 15}, {Max: 41, Hello: 2, Delay: 15}, {Max: 20, Delay: 15}, {Max: 20, Hello: 3, Delay: 15},
		{Max: 20, Hello: 2, Delay: 3}, {Max: 20, Hello: 2, Delay: 31}, {Age: 1, Max: 20, Hello: 2, Delay: 15}, {Age: -1, Max: 20, Hello: 2, Delay: 15}, {Max: -20, Hello: -2, Delay: -15},
	} {
		for _, words := range []string{"", "Hello=0", "Hello=0 -NewInfo", "-SendRstp", "Role=1 -SendRstp Hello=0", "-On", "TxCount=7", "Role=0"} {
			checkStays(t, words+" of a wrong bridge", info.Bridge{Id: 9, Times: times}, edit(ready(), words))
		}
	}
	for _, times := range []state.Times{{Max: 6, Hello: 1, Delay: 4}, {Max: 40, Hello: 2, Delay: 30}} {
		p, _, ok := checkSend(t, "right", info.Bridge{Times: times}, edit(ready(), "Hello=0 -NewInfo"))
		if !ok || p.Hello != times.Hello {
			t.Error(times, ok, p.Hello)
		}
	}
}

// P14.1: where Hello is 0, NewInfo goes on by Role and Tc, and Hello is the bridge's, whether or not anything goes out; else neither.
func TestHello(t *testing.T) {
	for _, role := range []int{math.MinInt, -2, -1, 0, 1, 2, 3, 4, 5, 256, 257, 258, math.MaxInt} {
		for _, tc := range []int{-1, 0, 1, 35} {
			for _, newInfo := range []bool{false, true} {
				for _, hello := range []int{-1, 0, 1, 2, 3, 256} {
					for _, rapid := range []string{"+SendRstp", "-SendRstp"} {
						// No more than six: so NewInfo is seen as it is behind the Hello.
						for _, count := range []int{5, 6} {
							p := edit(ready(), rapid)
							p.Role, p.Tc, p.NewInfo, p.Hello, p.TxCount = role, tc, newInfo, hello, count
							name := strconv.Itoa(role) + " Tc " + strconv.Itoa(tc) + " Hello " + strconv.Itoa(hello) + rapid
							got, _, ok := checkSend(t, name, usual(), p)
							wantHello, tells := hello, newInfo
							if hello == 0 {
								wantHello, tells = 2, newInfo || role == 2 || role == 1 && tc != 0
							}
							if got.Hello != wantHello || got.NewInfo != (tells && count == 6) || ok && !tells {
								t.Errorf("%s: Hello %d, NewInfo %v, %v", name, got.Hello, got.NewInfo, ok)
							}
						}
					}
				}
			}
		}
	}
}

// P14.1: below six it sends, and counts; from six on it doesn't, and what is new stays so.
func TestCounts(t *testing.T) {
	for _, x := range []struct {
		count int
		sends bool
	}{{math.MinInt, true}, {-256, true}, {-1, true}, {0, true}, {1, true}, {4, true}, {5, true}, {6, false}, {7, false}, {8, false}, {256, false}, {1 << 32, false}, {math.MaxInt, false}} {
		for _, words := range []string{"", "-SendRstp", "-SendRstp Role=1", "Role=1", "Role=3", "Role=4", "Hello=0", "Hello=0 -NewInfo"} {
			p := edit(ready(), words+" +TcAck TxCount="+strconv.Itoa(x.count))
			name := words + " TxCount " + strconv.Itoa(x.count)
			got, _, ok := checkSend(t, name, usual(), p)
			if ok != x.sends || got.NewInfo != !x.sends {
				t.Errorf("%s: sends %v, NewInfo %v", name, ok, got.NewInfo)
			}
			if x.sends && got.TxCount != x.count+1 || !x.sends && (got.TxCount != x.count || !got.TcAck) {
				t.Errorf("%s: counts %d", name, got.TxCount)
			}
		}
	}
}

// P14.1: what has nothing new sends nothing, and stays.
func TestNothingNew(t *testing.T) {
	for role := -1; role <= 5; role++ {
		for _, words := range []string{"", "-SendRstp", "TxCount=0", "+TcAck", "Tc=0", "Hello=1", "Hello=-1", "+Proposing +Agree"} {
			checkStays(t, words, usual(), edit(ready(), "-NewInfo "+words+" Role="+strconv.Itoa(role)))
		}
	}
}

// P14.1: which kind goes out, by tongue and role; where none does, NewInfo goes off all the same, and no more.
func TestRolesAndTongues(t *testing.T) {
	for _, x := range []struct {
		role       int
		rapid, old int
	}{
		{math.MinInt, 0, 0}, {-2, 0, 0}, {-1, 0, 0}, {0, 0, 0}, {1, 3, 2}, {2, 3, 1}, {3, 3, 0}, {4, 3, 0}, {5, 0, 0}, {6, 0, 0},
		{255, 0, 0}, {256, 0, 0}, {257, 0, 0}, {258, 0, 0}, {1<<32 + 1, 0, 0}, {1<<32 + 2, 0, 0}, {math.MaxInt, 0, 0},
	} {
		for _, rapid := range []bool{true, false} {
			for _, words := range []string{"", "+TcAck", "Tc=0", "+TcAck +Proposing +Agree +Learning +Forwarding"} {
				p := edit(ready(), words)
				p.Role, p.SendRstp = x.role, rapid
				kind := x.old
				if rapid {
					kind = x.rapid
				}
				name := strconv.Itoa(x.role) + " " + words
				got, m, ok := checkSend(t, name, usual(), p)
				if m.Kind != kind || ok != (kind != 0) || got.NewInfo || got.SendRstp != rapid {
					t.Errorf("%s, rapid %v: kind %d, want %d, NewInfo %v", name, rapid, m.Kind, kind, got.NewInfo)
				}
				if kind == 0 {
					checkPort(t, name, got, edit(p, "-NewInfo"))
				}
				if kind == 2 && m != (bpdu.Bpdu{Kind: 2}) {
					t.Errorf("%s: a notice tells %+v", name, m)
				}
			}
		}
	}
}

// P14.1: TcAck goes off with a rapid BPDU and a configuration, and stays with a notice, and where nothing goes out.
func TestAcknowledges(t *testing.T) {
	for _, x := range []struct {
		words string
		flags int // what is told, with Tc running
		stays bool
	}{
		{"Role=1", 9, false}, {"Role=2", 13, false}, {"Role=3", 5, false}, {"Role=4", 5, false}, {"Role=2 -SendRstp", 129, false},
		{"Role=1 -SendRstp", 0, true}, {"Role=3 -SendRstp", 0, true}, {"Role=4 -SendRstp", 0, true}, {"Role=0", 0, true}, {"Role=5", 0, true}, {"Role=2 TxCount=6", 0, true}, {"Role=2 -NewInfo", 0, true},
	} {
		got, m, _ := checkSend(t, x.words, usual(), edit(ready(), "+TcAck "+x.words))
		if got.TcAck != x.stays || m.Flags != x.flags {
			t.Errorf("%s: TcAck %v, flags %d", x.words, got.TcAck, m.Flags)
		}
		got, m, _ = checkSend(t, x.words, usual(), edit(ready(), "-TcAck "+x.words))
		if got.TcAck || m.Flags != x.flags&^128 {
			t.Errorf("%s, nothing to acknowledge: TcAck %v, flags %d", x.words, got.TcAck, m.Flags)
		}
	}
}

// P14.1: the flags, each on and off, in both tongues.
func TestFlags(t *testing.T) {
	for _, x := range []struct {
		words       string
		rapid, conf int
	}{
		{"Tc=0", 12, 0}, {"Tc=1", 13, 1}, {"Tc=-1", 12, 0}, {"Tc=0 +Proposing", 14, 0}, {"Tc=0 +Learning", 28, 0}, {"Tc=0 +Forwarding", 44, 0}, {"Tc=0 +Agree", 76, 0}, {"Tc=0 +TcAck", 12, 128},
		{"Tc=9 +Proposing +Learning +Forwarding +Agree +TcAck", 127, 129}, {"Tc=0 +Proposed +Agreed +Learn +Forward +Sync +Synced +Reroot +Disputed +Flush +TcProp +HeardTc +HeardTcn +HeardAck +Oper", 12, 0},
		{"Tc=9 +Learning +Forwarding", 61, 1}, {"Tc=0 +Proposing +Agree", 78, 0},
	} {
		_, rapid, _ := checkSend(t, x.words, usual(), edit(ready(), x.words))
		_, conf, _ := checkSend(t, x.words, usual(), edit(ready(), "-SendRstp "+x.words))
		if rapid.Kind != 3 || rapid.Flags != x.rapid || conf.Kind != 1 || conf.Flags != x.conf {
			t.Errorf("%s: %+v, %+v", x.words, rapid, conf)
		}
	}
	for role, want := range map[int]int{1: 9, 2: 13, 3: 5, 4: 5} {
		if _, m, _ := Send(usual(), edit(ready(), "Role="+strconv.Itoa(role))); m.Flags != want {
			t.Error(role, m.Flags)
		}
	}
}

// P14.1: what is told is what is offered and given, of the port, not what it heard, nor the bridge's own.
func TestTellsOffer(t *testing.T) {
	want := bpdu.Bpdu{Kind: 3, Flags: 13, Vector: vec(121, 122, 123, 124), Age: 11 * 256, Max: 12 * 256, Hello: 13 * 256, Delay: 14 * 256}
	got, m, ok := Send(usual(), ready())
	if m != want || !ok {
		t.Errorf("%+v %v", m, ok)
	}
	checkPort(t, "rapid", got, edit(ready(), "-NewInfo TxCount=6"))
	want.Kind, want.Flags = 1, 1
	if _, m, ok := Send(usual(), edit(ready(), "-SendRstp")); m != want || !ok {
		t.Errorf("%+v %v", m, ok)
	}
}

// P14.1: times, each by itself: 256 times it, at most 65535; a right BPDU has none below 0.
func TestTimes(t *testing.T) {
	for _, x := range []struct{ given, want int }{
		{0, 0}, {1, 256}, {2, 512}, {20, 5120}, {254, 65024}, {255, 65280}, {256, 65535}, {257, 65535}, {1000, 65535}, {65535, 65535}, {65536, 65535},
		{1 << 24, 65535}, {1 << 31, 65535}, {1 << 55, 65535}, {1<<55 + 1, 65535}, {1 << 56, 65535}, {1<<56 + 3, 65535}, {1 << 62, 65535}, {math.MaxInt, 65535},
		{-1, 0}, {-255, 0}, {-256, 0}, {-1 << 55, 0}, {1 - 1<<56, 0}, {3 - 1<<56, 0}, {-1 << 56, 0}, {math.MinInt, 0}, {math.MinInt + 1, 0},
	} {
		for at, name := range []string{"Age", "Max", "Hello", "Delay"} {
			for _, tongue := range []string{"", "-SendRstp"} {
				_, m, ok := checkSend(t, name, usual(), edit(ready(), tongue+" Given."+name+"="+strconv.Itoa(x.given)))
				want := []int{11 * 256, 12 * 256, 13 * 256, 14 * 256}
				want[at] = x.want
				if got := []int{m.Age, m.Max, m.Hello, m.Delay}; !ok || !slices.Equal(got, want) {
					t.Errorf("%s %d %s: %v, want %v", name, x.given, tongue, got, want)
				}
			}
		}
	}
}

// P14.2: with the greatest cost and Id what is sent is right still, and heard as it was sent; beyond them it goes out as it is, and isn't.
func TestGreatest(t *testing.T) {
	for _, x := range []struct {
		v     api.Vector
		right bool
	}{
		{vec(0, 0, 0, 0), true},
		{vec(math.MaxUint64, 1<<32-1, math.MaxUint64, 1<<16-1), true},
		{vec(1, 1<<32, 1, 1), false},
		{vec(1, 1, 1, 1<<16), false},
	} {
		for _, words := range []string{"", "-SendRstp", "Role=1", "Role=4", "Given.Age=256 Given.Max=99999", "-SendRstp Given.Max=99999 Given.Delay=-9"} {
			p := edit(ready(), words)
			p.Offer = x.v
			_, m, ok := checkSend(t, words, usual(), p)
			if !ok || m.Vector != x.v || bpdu.Right(m) != x.right {
				t.Errorf("%+v %s: %+v %v", x.v, words, m, ok)
			}
			s, e := bpdu.Print(m)
			if heard, h := bpdu.Parse(s); x.right && (e != api.OK || h != api.OK || heard != m) {
				t.Errorf("%+v %s: heard %+v", x.v, words, heard)
			}
		}
	}
	// A notice has no vector that could be too great.
	p := edit(ready(), "-SendRstp Role=1")
	p.Offer = vec(1, 1<<32, 1, 1<<16)
	if _, m, ok := Send(usual(), p); !ok || !bpdu.Right(m) {
		t.Errorf("%+v %v", m, ok)
	}
}

// P14.2: six go out, and not a seventh without a tick; behind one there is room for one, and it goes out as what is new waited.
func TestSixWithoutTick(t *testing.T) {
	for _, words := range []string{"", "-SendRstp", "-SendRstp Role=1", "Role=1", "Role=3"} {
		p := edit(ready(), words+" TxCount=0")
		for n := range 9 {
			p.NewInfo = true
			var ok bool
			if p, _, ok = checkSend(t, words, usual(), p); ok != (n < 6) || p.NewInfo != !ok {
				t.Errorf("%s: the %d. goes out: %v, NewInfo %v", words, n+1, ok, p.NewInfo)
			}
		}
		for tick := range 3 {
			p = state.Tick(p)
			for n := range 3 {
				var ok bool
				if p, _, ok = checkSend(t, words, usual(), p); ok != (n == 0) {
					t.Errorf("%s: behind tick %d the %d. goes out: %v", words, tick+1, n+1, ok)
				}
				p.NewInfo = true
			}
		}
		for range 8 {
			p = state.Tick(p)
		}
		sent := 0
		for range 20 {
			var ok bool
			if p, _, ok = Send(usual(), edit(p, "+NewInfo Hello=0")); ok {
				sent++
			}
		}
		if sent != 6 {
			t.Error(words, "behind a rest", sent)
		}
	}
}

// P14.1: a designated port whose Hello is 0 sends, without anything new, once a Hello time; a root port does so while it tells of a change.
func TestSendsEachHello(t *testing.T) {
	for _, x := range []struct {
		words string
		want  string // which ticks something goes out at
	}{
		{"Role=2", "x.x.x.x."}, {"Role=2 -SendRstp", "x.x.x.x."}, {"Role=1 Tc=3", "x.x....."}, {"Role=1 Tc=5 -SendRstp", "x.x.x..."}, {"Role=1 Tc=0", "........"}, {"Role=3", "........"}, {"Role=4", "........"}, {"Role=0", "........"},
		{"Role=3 +NewInfo", "x......."}, {"Role=2 +NewInfo Hello=1", "xx.x.x.x"},
	} {
		p := edit(ready(), "-NewInfo Hello=0 TxCount=0 "+x.words)
		got := ""
		for range 8 {
			out, _, ok := checkSend(t, x.words, usual(), p)
			if ok {
				got += "x"
			} else {
				got += "."
			}
			p = state.Tick(out)
		}
		if got != x.want {
			t.Errorf("%s: %s, want %s", x.words, got, x.want)
		}
	}
}

// some is one of the numbers at random.
func some(r *rand.Rand, l ...int) int { return l[r.Intn(len(l))] }

// mixed is a port with each bool on or off at random, with numbers about the edges.
func mixed(r *rand.Rand) state.Port {
	p := bare()
	v := reflect.ValueOf(&p).Elem()
	for at := range v.NumField() {
		if v.Field(at).Kind() == reflect.Bool {
			v.Field(at).SetBool(r.Intn(2) == 1)
		}
	}
	p.Role, p.Hello, p.Tc, p.Edge = r.Intn(7)-1, r.Intn(3)-1, r.Intn(4)-1, r.Intn(3)-1
	p.TxCount, p.Md, p.Migrate = some(r, -1, 0, 3, 5, 6, 7), r.Intn(5)-1, r.Intn(4)
	time := func() int { return some(r, 0, 1, 20, 255, 256, -1, 65536, math.MaxInt, math.MinInt, r.Intn(300)) }
	p.Given = state.Times{Age: time(), Max: time(), Hello: time(), Delay: time()}
	p.Offer = vec(r.Uint64(), r.Uint64()>>32, r.Uint64(), r.Uint64()>>48)
	return p
}

// sending is mixed, and mostly one that may send.
func sending(r *rand.Rand) state.Port {
	p := mixed(r)
	if r.Intn(5) > 0 {
		p.On, p.Ready, p.Update = true, true, false
	}
	return p
}

// mixedBridge is one that is right.
func mixedBridge(r *rand.Rand) info.Bridge {
	return info.Bridge{Id: 9, Times: state.Times{Max: 6 + r.Intn(35), Hello: 1 + r.Intn(2), Delay: 4 + r.Intn(27)}}
}

// P14.1, P14.2: ports of all sorts, held against the chapter; what is sent is right, and prints.
func TestSendsOfAllSorts(t *testing.T) {
	r := rand.New(rand.NewSource(22))
	met := map[int]int{}
	for range 60000 {
		b, p := mixedBridge(r), sending(r)
		_, m, ok := checkSend(t, "all sorts", b, p)
		met[m.Kind]++
		if ok != bpdu.Right(m) {
			t.Fatalf("%+v of %+v", m, p)
		}
		if _, e := bpdu.Print(m); ok && e != api.OK {
			t.Fatalf("%+v: %d", m, e)
		}
	}
	for kind := range 4 {
		if met[kind] < 100 {
			t.Error("kind", kind, "met", met[kind])
		}
	}
}

// P14.2: whatever happens to a port from its beginning on, no more than six go out without a tick.
func TestNeverMoreThanSix(t *testing.T) {
	r := rand.New(rand.NewSource(23))
	for range 200 {
		b, p := mixedBridge(r), state.New(1, 1, false)
		sent, most := 0, 0
		for range 400 {
			if r.Intn(15) == 0 {
				p = state.Tick(p)
				sent = 0
			}
			other := sending(r)
			other.TxCount = p.TxCount
			var ok bool
			if p, _, ok = Send(b, other); ok {
				sent++
			}
			p = Edge(Tongue(p))
			most = max(most, sent)
		}
		if most > 6 {
			t.Fatal(most, "went out without a tick")
		}
	}
}

// P14.1: what goes on and off in the three, and nothing else of a port.
func TestWhatStays(t *testing.T) {
	r := rand.New(rand.NewSource(24))
	checkStays := func(got, was state.Port, goes string) {
		t.Helper()
		g, w := reflect.ValueOf(got), reflect.ValueOf(was)
		for field := range g.NumField() {
			name := g.Type().Field(field).Name
			if !slices.Contains(strings.Fields(goes), name) && !g.Field(field).Equal(w.Field(field)) {
				t.Errorf("%s went from %v to %v", name, w.Field(field), g.Field(field))
			}
		}
	}
	for range 5000 {
		p := sending(r)
		checkStays(Tongue(p), p, "Migrate Check SendRstp Md HeardRstp HeardStp")
		checkStays(Edge(p), p, "Oper")
		got, _, _ := Send(usual(), p)
		checkStays(got, p, "NewInfo Hello TxCount TcAck")
	}
}

// The same is answered to the same, whatever was asked between.
func TestSameAgain(t *testing.T) {
	r := rand.New(rand.NewSource(25))
	for range 500 {
		b, p := mixedBridge(r), sending(r)
		first, m, ok := Send(b, p)
		Send(mixedBridge(r), sending(r))
		Tongue(sending(r))
		second, again, okAgain := Send(b, p)
		if first != second || m != again || ok != okAgain || Tongue(p) != Tongue(p) || Edge(p) != Edge(p) {
			t.Errorf("%+v", p)
		}
	}
}
