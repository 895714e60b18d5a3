package shard_test

import (
	"fmt"
	"math"
	"slices"
	"strings"
	"testing"

	"joinery/api"
	"joinery/line"
	"joinery/shard"
	"joinery/tape"
)

const (
	most  = math.MaxInt64
	least = math.MinInt64
)

// names are those of nodes that the tests put, and some that they do not.
var names = []string{"a", "b", "c", "d", "e", "f", "g", "h", "i", "n", "α", "none", "", "N", "\xff"}

// gangs are those that the tests bring, and some that they do not.
var gangs = []int{1, 2, 3, 4, 5, 6, 7, 8, 9, 10, 77, 999999, 0, -1, 1000000, most, least}

func of(cpu, mem int) api.Vec { return api.Vec{Cpu: cpu, Mem: mem} }

func node(name string, cpu, mem int) api.Node { return api.Node{Name: name, Cap: of(cpu, mem)} }

func pod(name string, cpu, mem int) api.Pod {
	return api.Pod{Name: name, Shard: 1, Need: of(cpu, mem)}
}

// to is a message to shard 1 from the coordinator.
func to(kind, gang int, yes bool) api.Msg {
	return api.Msg{Kind: kind, To: 1, Gang: gang, Yes: yes}
}

func hold(gang int, pods ...api.Pod) api.Msg {
	m := to(api.MHold, gang, false)
	m.Pods = pods
	return m
}

func prepare(gang int, peers ...int) api.Msg {
	m := to(api.MPrepare, gang, false)
	m.Peers = peers
	return m
}

// from is m from another one.
func from(who int, m api.Msg) api.Msg {
	m.From = who
	return m
}

// message is m as a text.
func message(m api.Msg) string { return fmt.Sprintf("%+v", m) }

// messages are l as a text; none and an empty list are the same.
func messages(l []api.Msg) string {
	var b strings.Builder
	for _, m := range l {
		b.WriteString(message(m) + "\n")
	}
	return b.String()
}

// reply is what shard 1 answers the coordinator.
func reply(kind, gang int, yes bool) string {
	return messages([]api.Msg{{Kind: kind, From: 1, Gang: gang, Yes: yes}})
}

// told is all that s tells, as a text.
func told(s *shard.Shard) string {
	var b strings.Builder
	fmt.Fprintf(&b, "%+v\n", s.Nodes())
	for _, name := range names {
		if v, pods := s.Used(name); v != of(0, 0) || pods != 0 {
			fmt.Fprintf(&b, "%q: %v used by %d\n", name, v, pods)
		}
	}
	for _, gang := range gangs {
		if state, p := s.State(gang), s.Places(gang); state != api.Nothing || len(p) > 0 {
			fmt.Fprintf(&b, "gang %d in %d: %+v\n", gang, state, p)
		}
	}
	return b.String()
}

// gets hands s a message, and asks for what is answered.
func gets(t *testing.T, s *shard.Shard, m api.Msg, want string) {
	t.Helper()
	if got := messages(s.Get(m)); got != want {
		t.Errorf("P1002: %s is answered\n%swant\n%s", message(m), got, want)
	}
}

// in asks for the state of a gang.
func in(t *testing.T, s *shard.Shard, gang, want int) {
	t.Helper()
	if got := s.State(gang); got != want {
		t.Errorf("P1002: gang %d is in %d, want %d", gang, got, want)
	}
}

// check asks for what a call answered.
func check(t *testing.T, what string, got, want api.Errno) {
	t.Helper()
	if got != want {
		t.Errorf("%s: %v, want %v", what, got, want)
	}
}

// keeps asks for the lines of a tape, and how many of them last.
func keeps(t *testing.T, what string, x *tape.Tape, lasting int, lines ...string) {
	t.Helper()
	if got := x.Lines(); !slices.Equal(got, lines) || x.Lasting() != lasting {
		t.Errorf("%s: the tape has %q, %d last; want %q, %d", what, got, x.Lasting(), lines, lasting)
	}
}

// with is shard 1 with these nodes, and its tape.
func with(t *testing.T, nodes ...api.Node) (*shard.Shard, *tape.Tape) {
	t.Helper()
	x := tape.New()
	s := shard.New(1, 0, x)
	for _, n := range nodes {
		check(t, "P1001: Node "+n.Name, s.Node(n), api.OK)
	}
	return s, x
}

// written is a tape of these lines, all of which last.
func written(t *testing.T, lines ...string) *tape.Tape {
	t.Helper()
	x := tape.New()
	for _, s := range lines {
		r, err := line.Parse(s)
		check(t, s, err, api.OK)
		x.Write(r)
	}
	x.Sync()
	return x
}

// P1001: a new shard has nothing, and leaves a new tape as it is.
func TestNew(t *testing.T) {
	x := tape.New()
	s := shard.New(1, 0, x)
	if got, want := told(s), "[]\n"; got != want {
		t.Errorf("P1001: a new one tells %s", got)
	}
	keeps(t, "P1001: behind New", x, 0)
	if got := s.Tick(); len(got) != 0 {
		t.Errorf("P1003: Tick of a new one: %s", messages(got))
	}
}

// Example 1.
func TestExample(t *testing.T) {
	s, _ := with(t, node("n", 3, 3))
	s.Get(hold(5, pod("p", 1, 1)))
	for _, gang := range []int{1, 4, 6, 999999, 0, -1, 1000000, most, least} {
		if got := s.State(gang); got != api.Nothing {
			t.Errorf("P1001: State of gang %d, which never came: %d", gang, got)
		}
	}
}

// history is the lines of each kind that a shard writes, in an order in which it may, and what is there behind each one.
var history = []struct{ line, told string }{
	{"node a:10,10", "a:10,10"},
	{"node b:5,5+gpu+ssd~hot!", "a:10,10 b:5,5+gpu+ssd~hot!"},
	{"prepare 1 1,3 p>a:4,1 q>a:1,4!", "a:10,10 b:5,5+gpu+ssd~hot! 1=2(p>a:4,1 q>a:1,4!) a=5,5*2"},
	{"commit 1", "a:10,10 b:5,5+gpu+ssd~hot! 1=3(p>a:4,1 q>a:1,4!) a=5,5*2"},
	{"prepare 2 2 p>a:5,0 q>b:5,5", "a:10,10 b:5,5+gpu+ssd~hot! 1=3(p>a:4,1 q>a:1,4!) 2=2(p>a:5,0 q>b:5,5) a=10,5*3 b=5,5*1"},
	{"abort 3", "a:10,10 b:5,5+gpu+ssd~hot! 1=3(p>a:4,1 q>a:1,4!) 2=2(p>a:5,0 q>b:5,5) 3=4() a=10,5*3 b=5,5*1"},
	{"abort 2", "a:10,10 b:5,5+gpu+ssd~hot! 1=3(p>a:4,1 q>a:1,4!) 2=4() 3=4() a=5,5*2"},
	{"gone b", "a:10,10 1=3(p>a:4,1 q>a:1,4!) 2=4() 3=4() a=5,5*2"},
	{"node a:5,6+ω", "a:5,6+ω 1=3(p>a:4,1 q>a:1,4!) 2=4() 3=4() a=5,5*2"},
	{"prepare 4 1,2,3,4 p>a:0,1", "a:5,6+ω 1=3(p>a:4,1 q>a:1,4!) 2=4() 3=4() 4=2(p>a:0,1) a=5,6*3"},
	{"release 1", "a:5,6+ω 1=5() 2=4() 3=4() 4=2(p>a:0,1) a=0,1*1"},
	{"prepare 999999 1 p>a:5,5", "a:5,6+ω 1=5() 2=4() 3=4() 4=2(p>a:0,1) 999999=2(p>a:5,5) a=5,6*2"},
	{"commit 999999", "a:5,6+ω 1=5() 2=4() 3=4() 4=2(p>a:0,1) 999999=3(p>a:5,5) a=5,6*2"},
	{"commit 4", "a:5,6+ω 1=5() 2=4() 3=4() 4=3(p>a:0,1) 999999=3(p>a:5,5) a=5,6*2"},
	{"release 4", "a:5,6+ω 1=5() 2=4() 3=4() 4=5() 999999=3(p>a:5,5) a=5,5*1"},
}

// sketch is all that s tells, in short: nodes and places as line has them.
func sketch(s *shard.Shard) string {
	var l []string
	for _, n := range s.Nodes() {
		l = append(l, strings.TrimPrefix(line.Text(api.Record{Kind: api.RNode, Node: n}), "node "))
	}
	for _, gang := range gangs {
		state, p := s.State(gang), s.Places(gang)
		if state != api.Nothing || len(p) > 0 {
			text := strings.TrimPrefix(line.Text(api.Record{Kind: api.RPrepare, Gang: 1, Peers: []int{1}, Places: p}), "prepare 1 1")
			l = append(l, fmt.Sprintf("%d=%d(%s)", gang, state, strings.TrimPrefix(text, " ")))
		}
	}
	for _, name := range names {
		if v, pods := s.Used(name); v != of(0, 0) || pods != 0 {
			l = append(l, fmt.Sprintf("%s=%d,%d*%d", name, v.Cpu, v.Mem, pods))
		}
	}
	return strings.Join(l, " ")
}

// P1001: New from each front of a tape of every kind of record; twice of one tape, which stays as it is, lasting or not.
func TestNewFromRecords(t *testing.T) {
	for n := range len(history) + 1 {
		for _, lasting := range []int{0, n / 2, n} {
			x := tape.New()
			var lines []string
			for i, h := range history[:n] {
				if i == lasting {
					x.Sync()
				}
				r, err := line.Parse(h.line)
				check(t, h.line, err, api.OK)
				x.Write(r)
				lines = append(lines, h.line)
			}
			if lasting == n {
				x.Sync()
			}
			want := ""
			if n > 0 {
				want = history[n-1].told
			}
			for _, s := range []*shard.Shard{shard.New(1, 0, x), shard.New(1, 0, x), shard.New(4, 2, x)} {
				if got := sketch(s); got != want {
					t.Errorf("P1001: from %q there is\n%s, want\n%s", lines, got, want)
				}
			}
			keeps(t, "P1001: behind New", x, lasting, lines...)
		}
	}
}

// P1001: what is read of a tape goes on as if it had never been away: its room is taken, its ages begin anew, its Peers are asked.
func TestOnFromRecords(t *testing.T) {
	x := written(t, "node n:3,3", "prepare 1 1,3 p>n:1,1", "prepare 2 2,4 p>n:1,1", "commit 2", "prepare 3 1,2,3,4 p>n:1,1")
	s := shard.New(1, 0, x)
	gets(t, s, hold(4, pod("p", 1, 1)), reply(api.MHeld, 4, false))
	for i := 1; i <= 6; i++ {
		want := ""
		if i >= 4 {
			want = messages([]api.Msg{
				{Kind: api.MAsk, From: 1, Gang: 1}, {Kind: api.MAsk, From: 1, To: 3, Gang: 1},
				{Kind: api.MAsk, From: 1, Gang: 3}, {Kind: api.MAsk, From: 1, To: 2, Gang: 3}, {Kind: api.MAsk, From: 1, To: 3, Gang: 3}, {Kind: api.MAsk, From: 1, To: 4, Gang: 3},
			})
		}
		if got := messages(s.Tick()); got != want {
			t.Errorf("P1001: tick %d behind New:\n%swant\n%s", i, got, want)
		}
	}
	gets(t, s, to(api.MDecide, 1, true), reply(api.MAck, 1, false))
	gets(t, s, to(api.MFree, 2, false), reply(api.MFreed, 2, false))
	gets(t, s, to(api.MDecide, 3, false), reply(api.MAck, 3, false))
	gets(t, s, hold(4, pod("p", 1, 1), pod("q", 1, 1)), reply(api.MHeld, 4, true))
	keeps(t, "P1002", x, 7, "node n:3,3", "prepare 1 1,3 p>n:1,1", "prepare 2 2,4 p>n:1,1", "commit 2", "prepare 3 1,2,3,4 p>n:1,1", "commit 1", "release 2", "abort 3")
}

// P1001: me is who answers and who is not asked; mode is by what is placed.
func TestMeAndMode(t *testing.T) {
	best := []string{"c", "a", "b"}
	for me := 1; me <= 4; me++ {
		for mode, name := range best {
			x := written(t, "node a:4,4", "node b:9,9", "node c:20,20", "prepare 8 1,2 p>a:0,0 q>c:2,2")
			s := shard.New(me, mode, x)
			m := api.Msg{Kind: api.MHold, To: me, Gang: 5, Pods: []api.Pod{pod("p", 2, 2)}}
			want := messages([]api.Msg{{Kind: api.MHeld, From: me, Gang: 5, Yes: true}})
			if got := messages(s.Get(m)); got != want {
				t.Errorf("P1001: shard %d answers %s, want %s", me, got, want)
			}
			if got := s.Places(5); len(got) != 1 || got[0].Node != name {
				t.Errorf("P1001: by mode %d p goes to %+v, want %s", mode, got, name)
			}
		}
	}
}

// refuses asks for an error, and that neither the shard nor its tape has changed (P5); twice, since the same calls answer the same (P3).
func refuses(t *testing.T, what string, s *shard.Shard, x *tape.Tape, call func() api.Errno, want api.Errno) {
	t.Helper()
	before, lines, lasting := told(s), x.Lines(), x.Lasting()
	for range 2 {
		check(t, "P1001: "+what, call(), want)
		if after := told(s); after != before {
			t.Errorf("P5: %s changed the shard from\n%sto\n%s", what, before, after)
		}
		keeps(t, "P1001: behind "+what, x, lasting, lines...)
	}
}

// loose leaves a record on the tape that does not last.
func loose(t *testing.T, s *shard.Shard, gang int) {
	t.Helper()
	gets(t, s, hold(gang, pod("p", 0, 0)), reply(api.MHeld, gang, true))
	gets(t, s, to(api.MDecide, gang, false), reply(api.MAck, gang, false))
}

// P1001: Node puts a node, a new one or one that is there, and that lasts, with all ahead of it.
func TestNode(t *testing.T) {
	s, x := with(t)
	check(t, "P1001: Node", s.Node(api.Node{Name: "b", Cap: of(1, 2), Marks: []string{"gpu"}, Taints: []string{"hot", "ω"}, Closed: true}), api.OK)
	keeps(t, "P1001: behind Node", x, 1, "node b:1,2+gpu~hot~ω!")
	check(t, "P1001: Node", s.Node(node("a", api.Most, 0)), api.OK)
	keeps(t, "P1001: behind Node", x, 2, "node b:1,2+gpu~hot~ω!", "node a:1099511627776,0")
	loose(t, s, 9)
	keeps(t, "P1002", x, 2, "node b:1,2+gpu~hot~ω!", "node a:1099511627776,0", "abort 9")
	check(t, "P1001: Node anew", s.Node(node("b", 7, 7)), api.OK)
	keeps(t, "P1001: behind Node", x, 4, "node b:1,2+gpu~hot~ω!", "node a:1099511627776,0", "abort 9", "node b:7,7")
	if got, want := sketch(s), "a:1099511627776,0 b:7,7 9=4()"; got != want {
		t.Errorf("P1001: there is %s, want %s", got, want)
	}
	x.Crash(0)
	if got, want := sketch(shard.New(1, 0, x)), "a:1099511627776,0 b:7,7 9=4()"; got != want {
		t.Errorf("P1001: behind a crash there is %s, want %s", got, want)
	}
}

// P1001: the Ledger's errors of Node; nothing is written then, and nothing more lasts.
func TestNodeErrors(t *testing.T) {
	var nodes []api.Node
	for _, name := range []string{"a", "b", "c", "d", "e", "f", "g"} {
		nodes = append(nodes, node(name, 3, 3))
	}
	s, x := with(t, nodes...)
	gets(t, s, hold(1, pod("p", 2, 2)), reply(api.MHeld, 1, true))
	loose(t, s, 9)
	for _, c := range []struct {
		n    api.Node
		want api.Errno
	}{
		{api.Node{}, api.ErrName}, {node("N", 3, 3), api.ErrName}, {node("1", 3, 3), api.ErrName}, {node("\xff", 3, 3), api.ErrName}, {node("abcdefghi", 3, 3), api.ErrName},
		{node("N", -1, 3), api.ErrName}, {node("a", -1, 3), api.ErrArg}, {node("h", 3, -1), api.ErrArg}, {node("h", api.Most+1, 3), api.ErrArg}, {node("h", 3, most), api.ErrArg}, {node("h", least, 3), api.ErrArg},
		{api.Node{Name: "a", Cap: of(3, 3), Marks: []string{"b", "a"}}, api.ErrName}, {api.Node{Name: "h", Taints: []string{"a", "a"}}, api.ErrName}, {api.Node{Name: "h", Taints: []string{"a", "b", "c", "d", "e"}}, api.ErrName},
		{node("a", 1, 3), api.ErrRoom}, {node("a", 3, 1), api.ErrRoom}, {node("a", 0, 0), api.ErrRoom},
	} {
		refuses(t, fmt.Sprintf("Node(%+v)", c.n), s, x, func() api.Errno { return s.Node(c.n) }, c.want)
	}
	check(t, "P1001: Node, the eighth", s.Node(node("h", 0, 0)), api.OK)
	loose(t, s, 10)
	refuses(t, "Node, the ninth", s, x, func() api.Errno { return s.Node(node("i", 3, 3)) }, api.ErrLong)
	check(t, "P1001: Node, as much as is used", s.Node(node("a", 2, 2)), api.OK)
}

// P1001: Gone takes a node away, and that lasts, with all ahead of it; the Ledger's errors.
func TestGone(t *testing.T) {
	s, x := with(t, node("a", 3, 3), node("b", 3, 3))
	check(t, "P1001: Gone", s.Gone("b"), api.OK)
	keeps(t, "P1001: behind Gone", x, 3, "node a:3,3", "node b:3,3", "gone b")
	loose(t, s, 9)
	for _, name := range []string{"b", "", "N", "\xff", "c", "a ", strings.Repeat("a", 50000)} {
		refuses(t, fmt.Sprintf("Gone(%.20q)", name), s, x, func() api.Errno { return s.Gone(name) }, api.ErrNone)
	}
	// A pod that needs nothing stands there, too.
	for _, m := range []api.Msg{hold(1, pod("p", 0, 0)), prepare(1, 1), to(api.MDecide, 1, true)} {
		s.Get(m)
		refuses(t, fmt.Sprint("Gone of one with a pod in ", s.State(1)), s, x, func() api.Errno { return s.Gone("a") }, api.ErrState)
	}
	s.Get(to(api.MFree, 1, false))
	loose(t, s, 10)
	check(t, "P1001: Gone", s.Gone("a"), api.OK)
	lines := []string{"node a:3,3", "node b:3,3", "gone b", "abort 9", "prepare 1 1 p>a:0,0", "commit 1", "release 1", "abort 10", "gone a"}
	keeps(t, "P1001: behind Gone", x, 9, lines...)
	x.Crash(0)
	if got, want := sketch(shard.New(1, 0, x)), "1=5() 9=4() 10=4()"; got != want {
		t.Errorf("P1001: behind a crash there is %s, want %s", got, want)
	}
	check(t, "P1001: Node, put again", s.Node(node("a", 1, 1)), api.OK)
}

// P1001: State, Places, Nodes, Used tell what there is, and change nothing.
func TestTells(t *testing.T) {
	s, x := with(t, api.Node{Name: "b", Cap: of(9, 9), Marks: []string{"gpu"}}, node("a", 1, 1), node("α", 9, 9))
	s.Get(hold(1, api.Pod{Name: "q", Shard: 1, Need: of(2, 1), Picks: []string{"gpu"}, Alone: true}, pod("p", 1, 0)))
	for range 2 {
		if got, want := sketch(s), "a:1,1 b:9,9+gpu α:9,9 1=1(q>b:2,1! p>α:1,0) b=2,1*1 α=1,0*1"; got != want {
			t.Errorf("P1001: there is %s, want %s", got, want)
		}
		keeps(t, "P1001: behind what tells", x, 3, "node b:9,9+gpu", "node a:1,1", "node α:9,9")
	}
}
