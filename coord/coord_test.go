package coord_test

import (
	"fmt"
	"math"
	"slices"
	"strings"
	"testing"

	"joinery/api"
	"joinery/coord"
	"joinery/line"
	"joinery/tape"
)

const (
	most  = math.MaxInt64
	least = math.MinInt64
)

// ids are those of gangs that the tests bring, and some that they do not.
var ids = []int{1, 2, 3, 4, 5, 6, 7, 8, 9, 10, 77, 999999, 0, -1, 1000000, most, least}

func of(cpu, mem int) api.Vec { return api.Vec{Cpu: cpu, Mem: mem} }

func pod(name string, shard int) api.Pod {
	return api.Pod{Name: name, Shard: shard, Need: of(shard, 1)}
}

// gang is one of a pod in each of these shards, in that order.
func gang(id int, shards ...int) api.Gang {
	g := api.Gang{Id: id}
	for i, shard := range shards {
		g.Pods = append(g.Pods, pod(string(rune('p'+i)), shard))
	}
	return g
}

// from is a message of that gang to the coordinator.
func from(who, kind, gang int, yes bool) api.Msg {
	return api.Msg{Kind: kind, From: who, Gang: gang, Yes: yes}
}

// message is m as a text.
func message(m api.Msg) string { return fmt.Sprintf("%+v", m) }

// messages are l as a text; none and an empty list are the same.
func messages(l []api.Msg) string {
	var b strings.Builder
	for _, m := range l {
		b.WriteString(message(m) + "\n")
	}
	return b.String()
}

// said is what the coordinator says of a gang to each of these.
func said(kind, gang int, yes bool, to ...int) string {
	var l []api.Msg
	for _, who := range to {
		l = append(l, api.Msg{Kind: kind, To: who, Gang: gang, Yes: yes})
	}
	return messages(l)
}

// shards are those of g's pods.
func shards(g api.Gang) []int {
	var l []int
	for who := 1; who <= 4; who++ {
		if slices.ContainsFunc(g.Pods, func(p api.Pod) bool { return p.Shard == who }) {
			l = append(l, who)
		}
	}
	return l
}

// holds is what it says of g to each of these, while it is held.
func holds(g api.Gang, to ...int) string {
	var l []api.Msg
	for _, who := range to {
		m := api.Msg{Kind: api.MHold, To: who, Gang: g.Id}
		for _, p := range g.Pods {
			if p.Shard == who {
				m.Pods = append(m.Pods, p)
			}
		}
		l = append(l, m)
	}
	return messages(l)
}

// prepares is what it says of a gang of these peers to each of those, while it is prepared.
func prepares(gang int, peers []int, to ...int) string {
	var l []api.Msg
	for _, who := range to {
		l = append(l, api.Msg{Kind: api.MPrepare, To: who, Gang: gang, Peers: peers})
	}
	return messages(l)
}

// told is all that c tells, as a text: each gang, its state, whom it waits for.
func told(c *coord.Coord) string {
	var l []string
	for _, gang := range c.Gangs() {
		l = append(l, fmt.Sprint(gang))
	}
	l = append(l, "/")
	for _, gang := range ids {
		if state, waits := c.State(gang), c.Waits(gang); state != api.Unknown || len(waits) > 0 {
			l = append(l, fmt.Sprintf("%d=%d%v", gang, state, waits))
		}
	}
	return strings.Join(l, " ")
}

// check asks for what a call answered.
func check(t *testing.T, what string, got, want api.Errno) {
	t.Helper()
	if got != want {
		t.Errorf("%s: %v, want %v", what, got, want)
	}
}

// keeps asks for the lines of a tape, all of which last.
func keeps(t *testing.T, what string, x *tape.Tape, lines ...string) {
	t.Helper()
	if got := x.Lines(); !slices.Equal(got, lines) || x.Lasting() != len(lines) {
		t.Errorf("%s: the tape has %q, %d last; want %q, all last", what, got, x.Lasting(), lines)
	}
}

// tells asks for all that c tells.
func tells(t *testing.T, what string, c *coord.Coord, want string) {
	t.Helper()
	if got := told(c); got != want {
		t.Errorf("%s: it tells %s, want %s", what, got, want)
	}
}

// gets hands c a message, and asks for what is said then.
func gets(t *testing.T, c *coord.Coord, m api.Msg, want string) {
	t.Helper()
	if got := messages(c.Get(m)); got != want {
		t.Errorf("P1103: behind %s there is said\n%swant\n%s", message(m), got, want)
	}
}

// all hands c a message of that kind, yes, from each of these.
func all(c *coord.Coord, kind, gang int, who ...int) {
	for _, w := range who {
		c.Get(from(w, kind, gang, true))
	}
}

// submits asks for what Submit of g answers.
func submits(t *testing.T, c *coord.Coord, g api.Gang) {
	t.Helper()
	l, err := c.Submit(g)
	check(t, fmt.Sprintf("P1102: Submit(%+v)", g), err, api.OK)
	if got, want := messages(l), holds(g, shards(g)...); got != want {
		t.Errorf("P1102: Submit(%+v) says\n%swant\n%s", g, got, want)
	}
}

// committed submits a gang of these shards, and lets all of them vote yes.
func committed(t *testing.T, c *coord.Coord, id int, shards ...int) {
	t.Helper()
	submits(t, c, gang(id, shards...))
	all(c, api.MHeld, id, shards...)
	all(c, api.MVote, id, shards...)
	if got := c.State(id); got != api.Committed {
		t.Errorf("P1103: State of gang %d: %d", id, got)
	}
}

// written is a tape of these lines, all of which last.
func written(t *testing.T, lines ...string) *tape.Tape {
	t.Helper()
	x := tape.New()
	for _, s := range lines {
		r, err := line.Parse(s)
		check(t, s, err, api.OK)
		x.Write(r)
	}
	x.Sync()
	return x
}

// P1101: a new coordinator knows no gang, and leaves a new tape as it is.
func TestNew(t *testing.T) {
	x := tape.New()
	c := coord.New(4, x)
	tells(t, "P1101: a new one", c, "/")
	if l := c.Tick(); len(l) != 0 {
		t.Errorf("P1104: Tick of a new one: %s", messages(l))
	}
	keeps(t, "P1101: behind New", x)
}

// Example 1.
func TestExample(t *testing.T) {
	c := coord.New(2, tape.New())
	submits(t, c, gang(5, 1, 2))
	for _, id := range ids {
		if got, waits := c.State(id), c.Waits(id); id != 5 && (got != api.Unknown || len(waits) != 0) {
			t.Errorf("P1101: gang %d, which never came: %d, waits %v", id, got, waits)
		}
	}
}

// history is lines of each kind that a coordinator writes, in an order in which it may, and what is told behind each one.
var history = []struct{ line, told string }{
	{"gang 7 1,3", "7 / 7=4[1 3]"},
	{"gang 5 1,2,3,4", "5 7 / 5=4[1 2 3 4] 7=4[1 3]"},
	{"commit 7", "5 7 / 5=4[1 2 3 4] 7=3[1 3]"},
	{"gang 999999 4", "5 7 999999 / 5=4[1 2 3 4] 7=3[1 3] 999999=4[4]"},
	{"gang 1 2,4", "1 5 7 999999 / 1=4[2 4] 5=4[1 2 3 4] 7=3[1 3] 999999=4[4]"},
	{"release 7", "1 5 7 999999 / 1=4[2 4] 5=4[1 2 3 4] 7=5[1 3] 999999=4[4]"},
	{"commit 999999", "1 5 7 999999 / 1=4[2 4] 5=4[1 2 3 4] 7=5[1 3] 999999=3[4]"},
	{"commit 1", "1 5 7 999999 / 1=3[2 4] 5=4[1 2 3 4] 7=5[1 3] 999999=3[4]"},
	{"gang 10 2", "1 5 7 10 999999 / 1=3[2 4] 5=4[1 2 3 4] 7=5[1 3] 10=4[2] 999999=3[4]"},
	{"release 999999", "1 5 7 10 999999 / 1=3[2 4] 5=4[1 2 3 4] 7=5[1 3] 10=4[2] 999999=5[4]"},
}

// P1101: New from each front of a tape of every kind of record; twice of one tape, which stays as it is, lasting or not.
func TestNewFromRecords(t *testing.T) {
	for n := range len(history) + 1 {
		for _, lasting := range []int{0, n / 2, n} {
			x := tape.New()
			var lines []string
			for i, h := range history[:n] {
				if i == lasting {
					x.Sync()
				}
				r, err := line.Parse(h.line)
				check(t, h.line, err, api.OK)
				x.Write(r)
				lines = append(lines, h.line)
			}
			if lasting == n {
				x.Sync()
			}
			want := "/"
			if n > 0 {
				want = history[n-1].told
			}
			for _, c := range []*coord.Coord{coord.New(4, x), coord.New(4, x), coord.New(1, x)} {
				tells(t, fmt.Sprintf("P1101: from %q", lines), c, want)
			}
			if !slices.Equal(x.Lines(), lines) || x.Lasting() != lasting {
				t.Errorf("P1101: behind New the tape has %q, %d last; want %q, %d", x.Lines(), x.Lasting(), lines, lasting)
			}
		}
	}
}

// P1101: a coordinator of its own writes what New reads; dropped ones, of which nothing is written, are dropped there, too.
func TestNewFromWhatWasWritten(t *testing.T) {
	x := tape.New()
	c := coord.New(4, x)
	for _, id := range []int{9, 3, 6, 1, 10} {
		submits(t, c, gang(id, 4, 1, 4))
	}
	committed(t, c, 5, 2, 3)
	committed(t, c, 4, 2)
	c.Release(4)
	all(c, api.MHeld, 3, 1, 4)
	c.Cancel(9)
	c.Get(from(4, api.MHeld, 6, false))
	all(c, api.MAck, 5, 2, 3)
	all(c, api.MFreed, 4, 2)
	lines := []string{"gang 9 1,4", "gang 3 1,4", "gang 6 1,4", "gang 1 1,4", "gang 10 1,4", "gang 5 2,3", "commit 5", "gang 4 2", "commit 4", "release 4"}
	tells(t, "P1102", c, "1 3 4 5 6 9 10 / 1=1[1 4] 3=2[1 4] 4=5[] 5=3[] 6=4[1 4] 9=4[1 4] 10=1[1 4]")
	for range 2 {
		x.Crash(0)
		keeps(t, "P1102", x, lines...)
		tells(t, "P1101: behind a crash", coord.New(4, x), "1 3 4 5 6 9 10 / 1=4[1 4] 3=4[1 4] 4=5[2] 5=3[2 3] 6=4[1 4] 9=4[1 4] 10=4[1 4]")
	}
}

// P1101: what is read of a tape goes on: all are waited for, and told; what is known is known.
func TestOnFromRecords(t *testing.T) {
	x := written(t, "gang 3 1,2", "gang 2 2,3,4", "commit 2", "gang 1 4", "commit 1", "release 1")
	c := coord.New(4, x)
	again := said(api.MFree, 1, false, 4) + said(api.MDecide, 2, true, 2, 3, 4) + said(api.MDecide, 3, false, 1, 2)
	for i := range 20 {
		if got := messages(c.Tick()); got != again {
			t.Fatalf("P1104: tick %d behind New:\n%swant\n%s", i, got, again)
		}
	}
	all(c, api.MAck, 3, 2)
	all(c, api.MAck, 2, 2, 4)
	all(c, api.MFreed, 1, 4)
	tells(t, "P1103", c, "1 2 3 / 1=5[] 2=3[3] 3=4[1]")
	for id := 1; id <= 3; id++ {
		if l, err := c.Submit(gang(id, 1)); err != api.ErrTwice || len(l) != 0 {
			t.Errorf("P1102: Submit of gang %d, which was read: %v, %s", id, err, messages(l))
		}
	}
	l, err := c.Release(2)
	check(t, "P1102: Release", err, api.OK)
	if got, want := messages(l), said(api.MFree, 2, false, 2, 3, 4); got != want {
		t.Errorf("P1102: Release says\n%swant\n%s", got, want)
	}
	keeps(t, "P1102", x, "gang 3 1,2", "gang 2 2,3,4", "commit 2", "gang 1 4", "commit 1", "release 1", "release 2")
}

// refuses asks for an error, for no messages beside it (P4), and that neither the coordinator nor its tape has changed (P5); twice, since the same calls answer the same (P3).
func refuses(t *testing.T, what string, c *coord.Coord, x *tape.Tape, call func() ([]api.Msg, api.Errno), want api.Errno) {
	t.Helper()
	before, lines := told(c), x.Lines()
	for range 2 {
		l, err := call()
		check(t, "P1102: "+what, err, want)
		if len(l) != 0 {
			t.Errorf("P4: beside an error %s says %s", what, messages(l))
		}
		tells(t, "P5: behind "+what, c, before)
		keeps(t, "P5: behind "+what, x, lines...)
	}
}

// P1102: Submit forces the gang's record, and says to each of its shards what it is to hold, whatever order the pods are in.
func TestSubmit(t *testing.T) {
	rich := api.Pod{Name: "αω", Shard: 4, Need: of(api.Most, 0), Picks: []string{"a", "b"}, Bears: []string{"c"}, Alone: true}
	var lines []string
	x := tape.New()
	c := coord.New(4, x)
	for i, g := range []api.Gang{
		gang(999999, 3), gang(1, 4, 2, 1, 3), gang(77, 2, 2, 2), gang(8, 4, 3, 4, 3, 4, 3, 4, 1), {Id: 2, Pods: []api.Pod{rich, pod("p", 2), pod("q", 4)}}, gang(10, 1, 1, 1, 1, 1, 1, 1, 1),
	} {
		peers := [][]int{{3}, {1, 2, 3, 4}, {2}, {1, 3, 4}, {2, 4}, {1}}[i]
		l, err := c.Submit(g)
		check(t, "P1102: Submit", err, api.OK)
		if got, want := messages(l), holds(g, peers...); got != want {
			t.Errorf("P1102: Submit(%+v) says\n%swant\n%s", g, got, want)
		}
		if c.State(g.Id) != api.Holding || !slices.Equal(c.Waits(g.Id), peers) {
			t.Errorf("P1102: behind Submit gang %d is in %d, and waits for %v, not for %v", g.Id, c.State(g.Id), c.Waits(g.Id), peers)
		}
		lines = append(lines, fmt.Sprintf("gang %d %s", g.Id, strings.ReplaceAll(strings.Trim(fmt.Sprint(peers), "[]"), " ", ",")))
		keeps(t, "P1102: behind Submit", x, lines...)
		x.Crash(0)
		keeps(t, "P1102: behind a crash", x, lines...)
		if state := coord.New(4, x).State(g.Id); state != api.Dropped {
			t.Errorf("P1101: behind a crash gang %d is in %d", g.Id, state)
		}
	}
	tells(t, "P1102", c, "1 2 8 10 77 999999 / 1=1[1 2 3 4] 2=1[2 4] 8=1[1 3 4] 10=1[1] 77=1[2] 999999=1[3]")
}

// refused are gangs that are refused where there are four shards, and why.
var refused = []struct {
	g    api.Gang
	want api.Errno
}{
	{api.Gang{}, api.ErrArg}, {gang(0, 1), api.ErrArg}, {gang(-1, 1), api.ErrArg}, {gang(1000000, 1), api.ErrArg}, {gang(most, 1), api.ErrArg}, {gang(least, 9), api.ErrArg},
	{gang(5), api.ErrLong}, {gang(5, 1, 1, 1, 1, 1, 1, 1, 1, 1), api.ErrLong}, {api.Gang{Id: 5, Pods: make([]api.Pod, 50000)}, api.ErrLong},
	{api.Gang{Id: 5, Pods: []api.Pod{{Shard: 1}}}, api.ErrName}, {api.Gang{Id: 5, Pods: []api.Pod{pod("p", 1), pod("N", 9)}}, api.ErrName}, {api.Gang{Id: 5, Pods: []api.Pod{pod("\xff", 1)}}, api.ErrName},
	{gang(5, 5), api.ErrArg}, {gang(5, 1, 0), api.ErrArg}, {gang(5, 2, -1), api.ErrArg}, {gang(5, 1, 2, most), api.ErrArg},
	{api.Gang{Id: 5, Pods: []api.Pod{{Name: "p", Shard: 1, Need: of(0, -1)}}}, api.ErrArg}, {api.Gang{Id: 5, Pods: []api.Pod{{Name: "p", Shard: 1, Need: of(api.Most+1, 0)}}}, api.ErrArg},
	{api.Gang{Id: 5, Pods: []api.Pod{{Name: "p", Shard: 1, Picks: []string{"b", "a"}}}}, api.ErrName}, {api.Gang{Id: 5, Pods: []api.Pod{{Name: "p", Shard: 1, Bears: []string{"a", "a"}}}}, api.ErrName},
	{api.Gang{Id: 5, Pods: []api.Pod{pod("p", 1), pod("q", 2), pod("p", 2)}}, api.ErrTwice}, {api.Gang{Id: 5, Pods: []api.Pod{pod("p", 1), pod("p", 1), pod("q", 5)}}, api.ErrArg},
}

// P1102: Submit's errors; those of spec.Gang are ahead of ErrTwice, whatever the state of the gang that is there.
func TestSubmitErrors(t *testing.T) {
	for state, ways := range routes {
		b := bencher(t, 5)
		b.befall(t, ways[0])
		for _, r := range refused {
			refuses(t, fmt.Sprintf("Submit(%.80s) in %d", fmt.Sprintf("%+v", r.g), state), b.c, b.x, func() ([]api.Msg, api.Errno) { return b.c.Submit(r.g) }, r.want)
		}
		if state == api.Unknown {
			continue
		}
		for _, g := range []api.Gang{trio(5), gang(5, 1), gang(5, 2, 1, 2)} {
			refuses(t, fmt.Sprint("Submit in ", state), b.c, b.x, func() ([]api.Msg, api.Errno) { return b.c.Submit(g) }, api.ErrTwice)
		}
	}
}

// P1101, P1102: so many shards there are.
func TestShards(t *testing.T) {
	for shards := 1; shards <= 4; shards++ {
		for shard := 1; shard <= 6; shard++ {
			x := tape.New()
			c := coord.New(shards, x)
			if shard <= shards {
				submits(t, c, gang(5, 1, shard))
				continue
			}
			refuses(t, fmt.Sprintf("Submit to shard %d of %d", shard, shards), c, x, func() ([]api.Msg, api.Errno) { return c.Submit(gang(5, 1, shard)) }, api.ErrArg)
		}
	}
}

// P1102: Cancel, at each state, by each way into it.
func TestCancel(t *testing.T) {
	each(t, func(what string, b *bench, state int, waits []int) {
		call := func() ([]api.Msg, api.Errno) { return b.c.Cancel(5) }
		switch state {
		case api.Unknown:
			refuses(t, "Cancel, "+what, b.c, b.x, call, api.ErrNone)
		case api.Holding, api.Preparing:
			b.tries(t, "P1102: Cancel, "+what, func() []api.Msg {
				l, err := call()
				check(t, "P1102: Cancel, "+what, err, api.OK)
				return l
			}, dropped, 0)
			refuses(t, "Cancel again, "+what, b.c, b.x, call, api.ErrState)
		default:
			refuses(t, "Cancel, "+what, b.c, b.x, call, api.ErrState)
		}
		b.lasts(t, "P1102: behind Cancel, "+what)
	})
}

// P1102: Release, at each state, by each way into it.
func TestRelease(t *testing.T) {
	each(t, func(what string, b *bench, state int, waits []int) {
		call := func() ([]api.Msg, api.Errno) { return b.c.Release(5) }
		switch state {
		case api.Unknown:
			refuses(t, "Release, "+what, b.c, b.x, call, api.ErrNone)
		case api.Committed:
			b.tries(t, "P1102: Release, "+what, func() []api.Msg {
				l, err := call()
				check(t, "P1102: Release, "+what, err, api.OK)
				return l
			}, effect{api.Released, whole, api.MFree, false, whole, "release"}, 0)
			refuses(t, "Release again, "+what, b.c, b.x, call, api.ErrState)
		default:
			refuses(t, "Release, "+what, b.c, b.x, call, api.ErrState)
		}
		b.lasts(t, "P1102: behind Release, "+what)
	})
}

// P1102: Cancel and Release of gangs out of bounds.
func TestNone(t *testing.T) {
	x := tape.New()
	c := coord.New(4, x)
	committed(t, c, 5, 1, 2)
	submits(t, c, gang(6, 1))
	for _, id := range ids {
		if id != 5 && id != 6 {
			refuses(t, fmt.Sprint("Cancel ", id), c, x, func() ([]api.Msg, api.Errno) { return c.Cancel(id) }, api.ErrNone)
			refuses(t, fmt.Sprint("Release ", id), c, x, func() ([]api.Msg, api.Errno) { return c.Release(id) }, api.ErrNone)
		}
	}
}
