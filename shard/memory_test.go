package shard_test

import (
	"fmt"
	"reflect"
	"slices"
	"strings"
	"testing"

	"joinery/api"
	"joinery/shard"
	"joinery/tape"
)

// fill writes over a list, its spare room too.
func fill[T any](l []T, with T) {
	l = l[:cap(l)]
	for i := range l {
		l[i] = with
	}
}

// memory is what is handed in is made of, so that many lists share it, each with spare room.
type memory struct {
	peers []int
	marks []string
	pods  []api.Pod
	nodes []api.Node
}

func fresh() *memory {
	m := &memory{peers: []int{1, 2, 3, 4, 77}, marks: []string{"a", "b", "c", "d", "e", "f"}}
	m.pods = []api.Pod{
		{Name: "p", Shard: 1, Need: of(1, 2), Picks: m.marks[0:1], Bears: m.marks[3:5]}, {Name: "q", Shard: 1, Need: of(2, 1), Bears: m.marks[3:4], Alone: true},
		{Name: "r", Shard: 1, Need: of(1, 1), Bears: m.marks[2:5]}, {Name: "s", Shard: 1},
	}
	m.nodes = []api.Node{{Name: "n", Cap: of(9, 9), Marks: m.marks[0:2], Taints: m.marks[3:4]}, {Name: "α", Cap: of(9, 9), Marks: m.marks[1:1], Taints: m.marks[3:3]}}
	return m
}

// scribble writes over all of it.
func (m *memory) scribble() {
	fill(m.peers, 2)
	fill(m.marks, "scribble")
	fill(m.pods, api.Pod{Name: "scribble", Shard: 1, Need: of(9, 9)})
	fill(m.nodes, api.Node{Name: "scribble"})
}

// steps are calls that hand in what m has.
func (m *memory) steps() []func(s *shard.Shard) {
	msg := func(kind, gang int, pods []api.Pod, peers []int) func(s *shard.Shard) {
		return func(s *shard.Shard) { s.Get(api.Msg{Kind: kind, To: 1, Gang: gang, Pods: pods, Peers: peers}) }
	}
	return []func(s *shard.Shard){
		func(s *shard.Shard) { s.Node(m.nodes[0]) }, func(s *shard.Shard) { s.Node(m.nodes[1]) },
		msg(api.MHold, 1, m.pods[0:2], m.peers[:0]), msg(api.MHold, 2, m.pods[1:3], nil), msg(api.MHold, 3, m.pods[3:4], nil), msg(api.MHold, 4, m.pods[0:1], nil),
		msg(api.MPrepare, 1, m.pods[:0], m.peers[0:3]), msg(api.MPrepare, 2, m.pods[:2], m.peers[1:4]), msg(api.MPrepare, 3, nil, m.peers[2:3]),
		msg(api.MHold, 1, m.pods[1:3], m.peers), msg(api.MPrepare, 2, nil, m.peers[0:1]), msg(api.MAsk, 5, m.pods, m.peers),
	}
}

// all is what s and its tape tell, by now and in the next ticks.
func all(s *shard.Shard, x *tape.Tape) string {
	var b strings.Builder
	for range 5 {
		fmt.Fprintln(&b, told(s), x.Lines(), x.Lasting())
		b.WriteString(messages(s.Tick()))
	}
	return b.String()
}

// P2: what is handed in is as it was, its spare room too.
func TestHandedInIsAsItWas(t *testing.T) {
	m := fresh()
	s := shard.New(1, 0, tape.New())
	for i, step := range m.steps() {
		step(s)
		s.Tick()
		if !reflect.DeepEqual(m, fresh()) {
			t.Fatalf("P2: behind step %d what was handed in is %+v", i, m)
		}
	}
}

// P2: what was handed in is not kept: its lists may be changed at any time.
func TestNothingIsKept(t *testing.T) {
	n := len(fresh().steps())
	for until := 1; until <= n; until++ {
		x, y := tape.New(), tape.New()
		want, got := shard.New(1, 0, x), shard.New(1, 0, y)
		for i := range until {
			fresh().steps()[i](want)
			m := fresh()
			m.steps()[i](got)
			m.scribble()
		}
		if a, b := all(got, y), all(want, x); a != b {
			t.Errorf("P2: behind %d steps, of which each one's was written over, there is\n%s, want\n%s", until, a, b)
		}
	}
}

// over writes over all lists of an answer.
func over(l []api.Msg) {
	for _, m := range l {
		fill(m.Pods, api.Pod{Name: "scribble"})
		fill(m.Peers, 2)
	}
	fill(l, api.Msg{Kind: 99})
}

func overNodes(l []api.Node) {
	for _, n := range l {
		fill(n.Marks, "scribble")
		fill(n.Taints, "scribble")
	}
	fill(l, api.Node{Name: "scribble"})
}

// P2: what was told is not what is kept: it may be changed, its spare room too.
func TestNothingIsShared(t *testing.T) {
	x, y := tape.New(), tape.New()
	want, got := shard.New(1, 0, x), shard.New(1, 0, y)
	for i, step := range fresh().steps() {
		step(want)
		step(got)
		for gang := range 6 {
			fill(got.Places(gang), api.Place{Pod: "scribble", Node: "n", Need: of(9, 9)})
		}
		overNodes(got.Nodes())
		over(got.Get(to(api.MPrepare, 1, false)))
		want.Get(to(api.MPrepare, 1, false))
		if told(got) != told(want) {
			t.Fatalf("P2: behind step %d answers were written over, and there is\n%s, want\n%s", i, told(got), told(want))
		}
	}
	for i := range 5 {
		a, b := got.Tick(), want.Tick()
		if messages(a) != messages(b) {
			t.Errorf("P2: tick %d tells\n%s, want\n%s", i, messages(a), messages(b))
		}
		over(a)
	}
	if a, b := all(got, y), all(want, x); a != b {
		t.Errorf("P2: answers were written over, and there is\n%s, want\n%s", a, b)
	}
}

// P2: an answer is its asker's: neither another answer nor a later call touches it; no two lists of it share any.
func TestAnswersStay(t *testing.T) {
	s := shard.New(1, 0, tape.New())
	for _, step := range fresh().steps() {
		step(s)
	}
	s.Node(api.Node{Name: "ω", Marks: []string{"a", "b"}, Taints: []string{"a", "b"}})
	for range 3 {
		s.Tick()
	}
	places, nodes, asks := s.Places(1), s.Nodes(), s.Tick()
	held := s.Get(hold(8, pod("p", 0, 0)))
	say := func() string { return fmt.Sprintf("%+v %+v %+v %+v", places, nodes, asks, held) }
	want := say()
	fill(s.Places(1), api.Place{})
	overNodes(s.Nodes())
	over(s.Tick())
	over(s.Get(hold(8, pod("p", 0, 0))))
	for _, gang := range []int{1, 2, 3} {
		s.Get(to(api.MDecide, gang, false))
	}
	s.Node(api.Node{Name: "ω"})
	s.Tick()
	if got := say(); got != want {
		t.Errorf("P2: the answers were\n%s, and are\n%s", want, got)
	}
	for i, n := range s.Nodes() {
		for which := range 2 {
			l, want := s.Nodes(), s.Nodes()
			if which == 0 {
				fill(l[i].Marks, "scribble")
				l[i].Marks, want[i].Marks = nil, nil
			} else {
				fill(l[i].Taints, "scribble")
				l[i].Taints, want[i].Taints = nil, nil
			}
			if fmt.Sprintf("%+v", l) != fmt.Sprintf("%+v", want) {
				t.Errorf("P2: list %d of node %s shares memory with another one", which, n.Name)
			}
		}
	}
}

// P2: New neither changes nor keeps the records of a tape; what is written to it later is not the shard's, till New is called again.
func TestTapeIsRead(t *testing.T) {
	x := written(t, "node n:9,9+gpu", "prepare 1 1,2 p>n:1,1")
	s := shard.New(1, 0, x)
	before := told(s)
	x.Write(api.Record{Kind: api.RAbort, Gang: 1})
	if told(s) != before {
		t.Errorf("P1001: a record written beside left %s, want %s", told(s), before)
	}
	in(t, shard.New(1, 0, x), 1, api.Aborted)
}

// P7: of two shards, each with a tape of its own, each is as if it were alone.
func TestTwoShards(t *testing.T) {
	steps := fresh().steps()
	other := []func(s *shard.Shard){
		func(s *shard.Shard) { s.Node(node("n", 2, 2)) }, func(s *shard.Shard) { s.Get(from(2, to(api.MAsk, 1, false))) }, func(s *shard.Shard) { s.Get(hold(2, pod("p", 1, 1))) },
		func(s *shard.Shard) { s.Tick() }, func(s *shard.Shard) { s.Get(prepare(2, 1, 4)) }, func(s *shard.Shard) { s.Get(to(api.MDecide, 2, true)) },
		func(s *shard.Shard) { s.Gone("α") }, func(s *shard.Shard) { s.Get(to(api.MFree, 2, false)) },
	}
	tapes := []*tape.Tape{tape.New(), tape.New(), tape.New(), tape.New()}
	var shards []*shard.Shard
	for _, x := range tapes {
		shards = append(shards, shard.New(1, 0, x))
	}
	for i, step := range steps {
		step(shards[0])
		step(shards[2])
		other[i%len(other)](shards[1])
	}
	for i := range steps {
		other[i%len(other)](shards[3])
	}
	for i := range 2 {
		if a, b := all(shards[i], tapes[i]), all(shards[i+2], tapes[i+2]); a != b {
			t.Errorf("P7: beside another one shard %d tells\n%s, alone\n%s", i, a, b)
		}
	}
}

// wrong are messages that no promise speaks of, whatever the state of gang 1.
func wrong() []api.Msg {
	var l []api.Msg
	for _, gang := range []int{0, -1, 1000000, most, least} {
		for _, kind := range kinds {
			l = append(l, api.Msg{Kind: kind, To: 1, Gang: gang, Pods: two(), Peers: []int{1, 2}}, api.Msg{Kind: kind, To: 1, Gang: gang, Yes: true})
		}
	}
	for _, who := range []int{0, 2, 3, 4, 5, -1, most, least} {
		for _, kind := range kinds {
			l = append(l, api.Msg{Kind: kind, To: who, Gang: 1, Pods: two(), Peers: []int{1, 2}}, api.Msg{Kind: kind, From: 1, To: who, Gang: 1, Yes: true})
		}
	}
	for _, kind := range []int{0, -1, 11, most, least, api.MHeld, api.MVote, api.MAck, api.MFreed} {
		l = append(l, to(kind, 1, true), to(kind, 1, false))
	}
	return l
}

// P1, P2, P8, P1002: a message to another one, of no gang, or of a kind that the table has not, is answered nothing, and changes nothing.
func TestWrongMessages(t *testing.T) {
	for state, ways := range routes {
		b := bencher(t, 1, 1)
		b.befall(t, ways[0])
		in(t, b.s, 1, state)
		for i, m := range wrong() {
			before, lines, lasting := told(b.s), b.x.Lines(), b.x.Lasting()
			gets(t, b.s, m, "")
			if told(b.s) != before {
				t.Errorf("P8: %s changed the shard from\n%sto\n%s", message(m), before, told(b.s))
			}
			keeps(t, "P8: behind "+message(m), b.x, lasting, lines...)
			if !reflect.DeepEqual(m, wrong()[i]) {
				t.Errorf("P2: %s was %s", message(m), message(wrong()[i]))
			}
		}
	}
}

// wrongPods are those that spec.Pod does not allow, or none, or two of one name, or more than a gang has.
func wrongPods() [][]api.Pod {
	p := pod("p", 1, 1)
	return [][]api.Pod{
		nil, {}, {p, p}, {p, pod("q", 1, 1), p}, {{}}, {pod("", 1, 1)}, {pod("N", 1, 1)}, {pod("\xff", 1, 1)}, {pod("p q", 1, 1)}, {p, pod("p>n", 1, 1)},
		{pod("p", -1, 1)}, {pod("p", 1, -1)}, {pod("p", api.Most+1, 0)}, {pod("p", most, most)}, {p, pod("q", least, 1)},
		{{Name: "p", Shard: 0}}, {{Name: "p", Shard: 5}}, {{Name: "p", Shard: -1}}, {{Name: "p", Shard: 1, Picks: []string{"b", "a"}}}, {{Name: "p", Shard: 1, Bears: []string{"a", "a"}}}, {{Name: "p", Shard: 1, Bears: make([]string, 50000)}},
		make([]api.Pod, 50000), {pod("a", 0, 0), pod("b", 0, 0), pod("c", 0, 0), pod("d", 0, 0), pod("e", 0, 0), pod("f", 0, 0), pod("g", 0, 0), pod("h", 0, 0), pod("i", 0, 0)},
	}
}

// P1, P8, P9: pods that may not be do not go; what can't be recorded is not held, so it is not voted for.
func TestWrongPods(t *testing.T) {
	s, x := with(t, api.Node{Name: "n", Cap: of(api.Most, api.Most), Marks: []string{"a", "b"}})
	before := told(s)
	for _, l := range wrongPods() {
		gets(t, s, hold(1, l...), reply(api.MHeld, 1, false))
		gets(t, s, prepare(1, 1, 2), reply(api.MVote, 1, false))
		if told(s) != before {
			t.Fatalf("P8: a hold of %+v left\n%s", l, told(s))
		}
	}
	keeps(t, "P8: behind wrong pods", x, 1, x.Lines()...)
	gets(t, s, hold(1, pod("p", 1, 1)), reply(api.MHeld, 1, true))
}

// wrongPeers are lists that are no peers.
func wrongPeers() [][]int {
	return [][]int{nil, {}, {0}, {5}, {-1}, {1, 5}, {0, 1}, {2, 1}, {1, 1}, {1, 2, 3, 4, 4}, {1, 2, 2}, {most}, {least}, make([]int, 50000)}
}

// P1, P8, P1004: of Peers that may not be there can be no record, so there is no vote of yes.
func TestWrongPeers(t *testing.T) {
	s, x := with(t, node("n", 9, 9))
	for _, l := range wrongPeers() {
		gets(t, s, hold(1, pod("p", 1, 1)), reply(api.MHeld, 1, true))
		gets(t, s, prepare(1, l...), "")
		in(t, s, 1, api.Held)
		keeps(t, "P1004: behind wrong peers", x, 1, "node n:9,9")
	}
	idle(t, s, 6)
	in(t, s, 1, api.Nothing)
	gets(t, s, hold(1, pod("p", 1, 1)), reply(api.MHeld, 1, true))
	gets(t, s, prepare(1, 1), reply(api.MVote, 1, true))
}

// use makes every call of s.
func use(s *shard.Shard, me int) {
	s.State(1)
	s.Places(1)
	s.Nodes()
	s.Used("n")
	s.Tick()
	s.Gone("n")
	s.Node(node("n", 9, 9))
	for gang := range 9 {
		for _, kind := range append([]int{api.MHold, api.MPrepare, api.MHold, api.MPrepare}, kinds...) {
			s.Get(api.Msg{Kind: kind, To: me, From: least, Gang: gang, Pods: two(), Peers: []int{1, 2}, Yes: gang%2 == 0})
			s.Tick()
		}
	}
	s.Gone("n")
}

// P1, P8: a me and a mode out of bounds, a tape of records that no shard wrote, a Shard that New did not answer: every call ends.
func TestWrongShards(t *testing.T) {
	for _, me := range []int{0, -1, 5, most, least} {
		for _, mode := range []int{0, -1, 3, most, least} {
			use(shard.New(me, mode, tape.New()), me)
		}
	}
	strange := []string{
		"commit 1", "release 1", "abort 1", "abort 1", "commit 1", "prepare 1 1,2 p>none:1,1", "gang 1 1,2", "gone n", "node n:1,1", "prepare 2 1 p>n:9,9", "prepare 3 1,2 p>n:1,1", "gone n",
		"node n:0,0", "prepare 3 4 p>n:0,0", "release 3", "commit 3", "prepare 3 1 p>n:0,0", "release 2", "commit 2", "gang 4 1",
	}
	for from := range strange {
		for until := from; until <= len(strange); until++ {
			lines := slices.Clone(strange[from:until])
			use(shard.New(1, 0, written(t, lines...)), 1)
			slices.Reverse(lines)
			use(shard.New(1, 0, written(t, lines...)), 1)
		}
	}
	use(&shard.Shard{}, 0)
	var zero, other shard.Shard
	check(t, "P1: Node of a zero Shard", zero.Node(node("n", 1, 1)), api.OK)
	if len(zero.Nodes()) != 1 || len(other.Nodes()) != 0 || len(other.Tick()) != 0 {
		t.Errorf("P7: %+v, %+v", zero.Nodes(), other.Nodes())
	}
	for _, call := range []func(s *shard.Shard){
		func(s *shard.Shard) { s.State(1) }, func(s *shard.Shard) { s.Places(1) }, func(s *shard.Shard) { s.Used("n") }, func(s *shard.Shard) { s.Gone("n") },
		func(s *shard.Shard) { s.Get(api.Msg{Kind: api.MAsk, Gang: 1}) }, func(s *shard.Shard) { s.Get(api.Msg{}) },
	} {
		call(&shard.Shard{})
	}
}
