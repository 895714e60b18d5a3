package coord_test

import (
	"fmt"
	"reflect"
	"slices"
	"strings"
	"testing"

	"joinery/api"
	"joinery/coord"
	"joinery/tape"
)

// fill writes over a list, its spare room too.
func fill[T any](l []T, with T) {
	l = l[:cap(l)]
	for i := range l {
		l[i] = with
	}
}

// memory is what is handed in is made of, so that many lists share it, each with spare room.
type memory struct {
	peers []int
	marks []string
	pods  []api.Pod
}

func fresh() *memory {
	m := &memory{peers: []int{1, 2, 3, 4, 77}, marks: []string{"a", "b", "c", "d", "e", "f"}}
	m.pods = []api.Pod{
		{Name: "p", Shard: 1, Need: of(1, 2), Picks: m.marks[0:1], Bears: m.marks[3:5]}, {Name: "q", Shard: 2, Need: of(2, 1), Bears: m.marks[3:4], Alone: true},
		{Name: "r", Shard: 1, Need: of(1, 1), Bears: m.marks[2:5]}, {Name: "s", Shard: 2}, {Name: "t", Shard: 4, Picks: m.marks[1:5]},
	}
	return m
}

// scribble writes over all of it.
func (m *memory) scribble() {
	fill(m.peers, 3)
	fill(m.marks, "scribble")
	fill(m.pods, api.Pod{Name: "scribble", Shard: 3, Need: of(9, 9)})
}

// steps are calls that hand in what m has; what they say is answered.
func (m *memory) steps() []func(c *coord.Coord) []api.Msg {
	submit := func(id int, pods []api.Pod) func(c *coord.Coord) []api.Msg {
		return func(c *coord.Coord) []api.Msg { l, _ := c.Submit(api.Gang{Id: id, Pods: pods}); return l }
	}
	get := func(who, kind, gang int, yes bool) func(c *coord.Coord) []api.Msg {
		return func(c *coord.Coord) []api.Msg {
			return c.Get(api.Msg{Kind: kind, From: who, Gang: gang, Yes: yes, Pods: m.pods[1:3], Peers: m.peers[2:4]})
		}
	}
	return []func(c *coord.Coord) []api.Msg{
		submit(1, m.pods[0:4]), submit(2, m.pods[1:2]), submit(3, m.pods[:5]), submit(4, m.pods[3:5]), submit(1, m.pods), submit(5, m.pods[:0]), submit(6, m.pods[2:3]),
		get(1, api.MHeld, 1, true), get(2, api.MHeld, 1, true), get(2, api.MHeld, 2, true), get(4, api.MHeld, 3, true), get(2, api.MHeld, 4, false), get(1, api.MVote, 1, true),
		func(c *coord.Coord) []api.Msg { return c.Tick() },
		get(2, api.MVote, 1, true), get(1, api.MAck, 1, true), get(2, api.MVote, 4, true), get(3, api.MAsk, 1, true), get(3, api.MAsk, 9, true),
		func(c *coord.Coord) []api.Msg { l, _ := c.Release(1); return l },
		get(1, api.MFreed, 1, true),
		func(c *coord.Coord) []api.Msg { l, _ := c.Cancel(6); return l },
	}
}

// onward is what c and its tape tell, by now and in the next ticks.
func onward(c *coord.Coord, x *tape.Tape) string {
	var b strings.Builder
	for range 8 {
		fmt.Fprintln(&b, told(c), x.Lines(), x.Lasting())
		b.WriteString(messages(c.Tick()))
	}
	return b.String()
}

// P2: what is handed in is as it was, its spare room too.
func TestHandedInIsAsItWas(t *testing.T) {
	m := fresh()
	c := coord.New(4, tape.New())
	for i, step := range m.steps() {
		step(c)
		if !reflect.DeepEqual(m, fresh()) {
			t.Fatalf("P2: behind step %d what was handed in is %+v", i, m)
		}
	}
}

// P2: what was handed in is not kept: its lists may be changed at any time.
func TestNothingIsKept(t *testing.T) {
	n := len(fresh().steps())
	for until := 1; until <= n; until++ {
		x, y := tape.New(), tape.New()
		want, got := coord.New(4, x), coord.New(4, y)
		for i := range until {
			fresh().steps()[i](want)
			m := fresh()
			m.steps()[i](got)
			m.scribble()
		}
		if a, b := onward(got, y), onward(want, x); a != b {
			t.Errorf("P2: behind %d steps, of which each one's was written over, there is\n%s, want\n%s", until, a, b)
		}
	}
}

// over writes over all lists of an answer.
func over(l []api.Msg) {
	for _, m := range l {
		for _, p := range m.Pods {
			fill(p.Picks, "scribble")
			fill(p.Bears, "scribble")
		}
		fill(m.Pods, api.Pod{Name: "scribble", Shard: 3})
		fill(m.Peers, 3)
	}
	fill(l, api.Msg{Kind: 99})
}

// overTold writes over all that c tells.
func overTold(c *coord.Coord) {
	fill(c.Gangs(), 77)
	for _, id := range ids {
		fill(c.Waits(id), 3)
	}
}

// P2: what was told is not what is kept: it may be changed, its spare room too.
func TestNothingIsShared(t *testing.T) {
	x, y := tape.New(), tape.New()
	want, got := coord.New(4, x), coord.New(4, y)
	for i, step := range fresh().steps() {
		a, b := step(got), step(want)
		if messages(a) != messages(b) {
			t.Fatalf("P2: ahead of step %d answers were written over, and it says\n%s, want\n%s", i, messages(a), messages(b))
		}
		over(a)
		overTold(got)
		if told(got) != told(want) {
			t.Fatalf("P2: behind step %d answers were written over, and there is\n%s, want\n%s", i, told(got), told(want))
		}
	}
	for i := range 9 {
		a, b := got.Tick(), want.Tick()
		if messages(a) != messages(b) {
			t.Errorf("P2: tick %d says\n%s, want\n%s", i, messages(a), messages(b))
		}
		over(a)
	}
	if a, b := onward(got, y), onward(want, x); a != b {
		t.Errorf("P2: answers were written over, and there is\n%s, want\n%s", a, b)
	}
}

// lists are all lists of an answer that may be written over one by one, each by its function.
func lists(l []api.Msg) []func() {
	var all []func()
	for i := range l {
		m := &l[i]
		all = append(all, func() { fill(m.Peers, 3); m.Peers = nil }, func() { fill(m.Pods, api.Pod{}); m.Pods = nil })
		for j := range m.Pods {
			p := &m.Pods[j]
			all = append(all, func() { fill(p.Picks, "scribble"); p.Picks = nil }, func() { fill(p.Bears, "scribble"); p.Bears = nil })
		}
	}
	return all
}

// P2: no two lists of one answer share any memory.
func TestListsShareNone(t *testing.T) {
	pods := []api.Pod{
		{Name: "p", Shard: 1, Picks: []string{"a", "b"}, Bears: []string{"c", "d"}}, {Name: "q", Shard: 1, Picks: []string{"a"}, Bears: []string{"b"}}, {Name: "r", Shard: 4, Picks: []string{"a", "b", "c"}},
	}
	begun := func() (*coord.Coord, []api.Msg) {
		c := coord.New(4, tape.New())
		l, _ := c.Submit(api.Gang{Id: 5, Pods: pods})
		return c, l
	}
	for i, answer := range []func() []api.Msg{
		func() []api.Msg { _, l := begun(); return l },
		func() []api.Msg { c, _ := begun(); return c.Tick() },
		func() []api.Msg {
			c, _ := begun()
			c.Get(from(4, api.MHeld, 5, true))
			return c.Get(from(1, api.MHeld, 5, true))
		},
		func() []api.Msg { c, _ := begun(); all(c, api.MHeld, 5, 1, 4); return c.Tick() },
	} {
		for n := range lists(answer()) {
			// The one is written over, and taken away; the other only has it taken away.
			got, want := answer(), answer()
			lists(got)[n]()
			blank(want, n)
			if messages(got) != messages(want) {
				t.Errorf("P2: answer %d: list %d shares memory with another one:\n%s", i, n, messages(got))
			}
		}
	}
}

// blank takes the n-th of the lists away.
func blank(l []api.Msg, n int) {
	for i := range l {
		m := &l[i]
		if n == 0 {
			m.Peers = nil
		}
		if n == 1 {
			m.Pods = nil
			return
		}
		n -= 2
		for j := range m.Pods {
			if n == 0 {
				m.Pods[j].Picks = nil
			}
			if n == 1 {
				m.Pods[j].Bears = nil
			}
			n -= 2
		}
		if n < 0 {
			return
		}
	}
}

// P2: an answer is its asker's: neither another answer nor a later call touches it.
func TestAnswersStay(t *testing.T) {
	c := coord.New(4, tape.New())
	g := api.Gang{Id: 5, Pods: fresh().pods}
	begun, _ := c.Submit(g)
	again, waits, gangs := c.Tick(), c.Waits(5), c.Gangs()
	c.Get(from(1, api.MHeld, 5, true))
	fewer := c.Waits(5)
	c.Get(from(4, api.MHeld, 5, true))
	asked := c.Get(from(2, api.MHeld, 5, true))
	prepared := c.Tick()
	say := func() string {
		return fmt.Sprintf("%+v %+v %v %v %v %+v %+v", begun, again, waits, gangs, fewer, asked, prepared)
	}
	want := say()
	overTold(c)
	over(c.Tick())
	c.Submit(gang(1, 1, 2))
	c.Get(from(2, api.MVote, 5, true))
	c.Get(from(1, api.MVote, 5, true))
	over(c.Get(from(4, api.MVote, 5, true)))
	c.Release(5)
	all(c, api.MFreed, 5, 1, 2, 4)
	if got := say(); got != want {
		t.Errorf("P2: the answers were\n%s, and are\n%s", want, got)
	}
}

// P2: New does not keep the records of a tape; what is written to it later is not the coordinator's, till New is called again.
func TestTapeIsRead(t *testing.T) {
	x := written(t, "gang 5 1,2")
	c := coord.New(4, x)
	x.Write(api.Record{Kind: api.RCommit, Gang: 5})
	tells(t, "P1101: a record was written beside", c, "5 / 5=4[1 2]")
	tells(t, "P1101", coord.New(4, x), "5 / 5=3[1 2]")
}

// P7: of two coordinators, each with a tape of its own, each is as if it were alone.
func TestTwoCoordinators(t *testing.T) {
	steps := fresh().steps()
	other := []func(c *coord.Coord) []api.Msg{
		func(c *coord.Coord) []api.Msg { l, _ := c.Submit(gang(1, 3)); return l }, func(c *coord.Coord) []api.Msg { l, _ := c.Submit(gang(3, 1, 2)); return l },
		func(c *coord.Coord) []api.Msg { return c.Get(from(3, api.MHeld, 1, false)) }, func(c *coord.Coord) []api.Msg { return c.Tick() }, func(c *coord.Coord) []api.Msg { return c.Get(from(2, api.MHeld, 3, true)) },
		func(c *coord.Coord) []api.Msg { return c.Get(from(1, api.MHeld, 3, true)) }, func(c *coord.Coord) []api.Msg { l, _ := c.Cancel(3); return l },
	}
	tapes := []*tape.Tape{tape.New(), tape.New(), tape.New(), tape.New()}
	var coords []*coord.Coord
	for _, x := range tapes {
		coords = append(coords, coord.New(4, x))
	}
	for i, step := range steps {
		a, b := messages(step(coords[0])), messages(step(coords[2]))
		if a != b {
			t.Errorf("P7: beside another one step %d says\n%s, alone\n%s", i, a, b)
		}
		other[i%len(other)](coords[1])
	}
	for i := range steps {
		other[i%len(other)](coords[3])
	}
	for i := range 2 {
		if a, b := onward(coords[i], tapes[i]), onward(coords[i+2], tapes[i+2]); a != b {
			t.Errorf("P7: beside another one coordinator %d tells\n%s, alone\n%s", i, a, b)
		}
	}
}

// wrong are messages that no promise speaks of, whatever the state of gang 5: to another one, from no shard, of a gang that is not known, of a kind that a coordinator does not hear.
func wrong() []api.Msg {
	var l []api.Msg
	add := func(kind, from, to, gang int) {
		l = append(l, api.Msg{Kind: kind, From: from, To: to, Gang: gang, Yes: true, Pods: trio(5).Pods, Peers: []int{1, 2}}, api.Msg{Kind: kind, From: from, To: to, Gang: gang})
	}
	for _, kind := range kinds {
		for _, who := range []int{1, 2, 3, 4, 5, -1, most, least} {
			add(kind, 1, who, 5)
		}
		for _, who := range []int{0, 5, -1, most, least} {
			add(kind, who, 0, 5)
		}
		for _, gang := range []int{0, -1, 1000000, most, least, 7} {
			if kind != api.MAsk {
				add(kind, 1, 0, gang)
			}
		}
	}
	for _, kind := range []int{0, -1, 11, most, least, api.MHold, api.MPrepare, api.MDecide, api.MTell, api.MFree} {
		add(kind, 1, 0, 5)
	}
	return l
}

// P1, P2, P8, P1103: such a message is answered nothing, and changes nothing.
func TestWrongMessages(t *testing.T) {
	for state, ways := range routes {
		b := bencher(t, 5)
		b.befall(t, ways[0])
		for i, m := range wrong() {
			before, lines := told(b.c), b.x.Lines()
			gets(t, b.c, m, "")
			tells(t, fmt.Sprint("P8: in ", state, ", behind ", message(m)), b.c, before)
			keeps(t, "P8: behind "+message(m), b.x, lines...)
			if !reflect.DeepEqual(m, wrong()[i]) {
				t.Errorf("P2: %s was %s", message(m), message(wrong()[i]))
			}
		}
	}
}

// use makes every call of c.
func use(c *coord.Coord) {
	for _, r := range refused {
		c.Submit(r.g)
	}
	for _, id := range ids {
		c.Submit(trio(id))
		c.Submit(gang(id, 1, 5, most))
		for _, kind := range kinds {
			for who := -1; who < 6; who++ {
				c.Get(api.Msg{Kind: kind, From: who, Gang: id, Yes: who%2 == 0, Pods: trio(id).Pods, Peers: []int{0, 9}})
			}
		}
		for _, kind := range []int{api.MHeld, api.MVote, api.MAck} {
			all(c, kind, id, 1, 2, 4, 5)
		}
		c.Tick()
		c.Release(id)
		c.Cancel(id)
		c.State(id)
		c.Waits(id)
	}
	c.Gangs()
	for range 9 {
		c.Tick()
	}
}

// P1, P8: so many shards as may not be, a tape of records that no coordinator wrote, a Coord that New did not answer: every call ends.
func TestWrongCoordinators(t *testing.T) {
	for _, shards := range []int{0, -1, 5, most, least} {
		use(coord.New(shards, tape.New()))
	}
	strange := []string{
		"commit 1", "release 1", "abort 1", "gang 1 1,2", "release 1", "gang 1 3", "commit 1", "commit 1", "prepare 2 1,2 p>none:1,1", "node n:1,1", "gone n", "gang 2 4", "abort 2", "release 3", "gang 3 1", "commit 3", "gang 3 2", "release 2", "commit 2",
	}
	for from := range strange {
		for until := from; until <= len(strange); until++ {
			lines := slices.Clone(strange[from:until])
			use(coord.New(4, written(t, lines...)))
			slices.Reverse(lines)
			use(coord.New(4, written(t, lines...)))
		}
	}
	use(&coord.Coord{})
	var zero coord.Coord
	if l, err := zero.Submit(gang(5, 1)); err != api.ErrArg || len(l) != 0 || len(zero.Gangs()) != 0 {
		t.Errorf("P1: Submit to a zero Coord: %v", err)
	}
	tells(t, "P1101: records of other kinds", coord.New(4, written(t, "node n:1,1", "prepare 2 1,2 p>none:1,1", "abort 1", "gone n")), "/")
}

// P8, P9: of what can't be read again nothing is begun, so that nothing is committed that would be forgotten.
func TestTooManyShards(t *testing.T) {
	x := tape.New()
	c := coord.New(9, x)
	submits(t, c, gang(1, 4))
	for _, g := range []api.Gang{gang(5, 5), gang(5, 1, 2, 9)} {
		refuses(t, "Submit", c, x, func() ([]api.Msg, api.Errno) { return c.Submit(g) }, api.ErrArg)
	}
}
