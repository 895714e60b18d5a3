package coord_test

import (
	"fmt"
	"slices"
	"strings"
	"testing"

	"joinery/api"
	"joinery/coord"
	"joinery/tape"
)

// How many: none of the peers, one of them, all of them.
const (
	nobody = 0
	one    = 1
	whole  = 2
)

// effect is what comes of an event: the state behind it, how many are waited for anew (one: that one is waited for no more), what is said to how many, which record is forced.
type effect struct {
	next, waits int
	kind        int
	yes         bool
	to          int
	writes      string
}

// dropped is what comes of a drop.
var dropped = effect{api.Dropped, whole, api.MDecide, false, whole, ""}

// row is what comes of a message of that kind in that state. Of yes and who each letter is one case: y and n; w: one of several that are waited for, l: the last one, h: one that is waited for no more, s: none of its peers.
type row struct {
	kind  int
	yes   string
	state int
	who   string
	comes effect
}

// table is P1103's.
var table = []row{
	{api.MHeld, "n", api.Holding, "wlh", dropped},
	{api.MHeld, "y", api.Holding, "w", effect{next: api.Holding, waits: one}},
	{api.MHeld, "y", api.Holding, "l", effect{api.Preparing, whole, api.MPrepare, false, whole, ""}},
	{api.MVote, "n", api.Preparing, "wlh", dropped},
	{api.MVote, "y", api.Preparing, "w", effect{next: api.Preparing, waits: one}},
	{api.MVote, "y", api.Preparing, "l", effect{api.Committed, whole, api.MDecide, true, whole, "commit"}},
	{api.MVote, "yn", api.Committed, "wlh", effect{api.Committed, nobody, api.MDecide, true, one, ""}},
	{api.MVote, "yn", api.Dropped, "wlh", effect{api.Dropped, nobody, api.MDecide, false, one, ""}},
	{api.MAck, "yn", api.Committed, "wl", effect{next: api.Committed, waits: one}},
	{api.MAck, "yn", api.Dropped, "wl", effect{next: api.Dropped, waits: one}},
	{api.MFreed, "yn", api.Released, "wl", effect{next: api.Released, waits: one}},
	{api.MAsk, "yn", api.Committed, "wlhs", effect{api.Committed, nobody, api.MTell, true, one, ""}},
	{api.MAsk, "yn", api.Released, "wlhs", effect{api.Released, nobody, api.MTell, true, one, ""}},
	{api.MAsk, "yn", api.Dropped, "wlhs", effect{api.Dropped, nobody, api.MTell, false, one, ""}},
	{api.MAsk, "yn", api.Unknown, "s", effect{api.Unknown, nobody, api.MTell, false, one, ""}},
}

// ruled tells what comes of a message; of one that the table has not, nothing.
func ruled(kind int, yes bool, state int, who string) effect {
	y := "n"
	if yes {
		y = "y"
	}
	for _, r := range table {
		if r.kind == kind && strings.Contains(r.yes, y) && r.state == state && strings.Contains(r.who, who) {
			return r.comes
		}
	}
	return effect{next: state}
}

// kinds are those that there are, and some that are none.
var kinds = []int{1, 2, 3, 4, 5, 6, 7, 8, 9, 10, 0, -1, 11, most, least}

// routes are ways into each state, from Unknown on, at the end of which all are waited for: what befalls the coordinator, one by one.
var routes = [6][]string{
	api.Unknown:   {"", "crash", "cancel release", "held vote ask1"},
	api.Holding:   {"submit", "submit tick tick", "submit vote ack freed ask1", "submit held3 heldno3 tick"},
	api.Preparing: {"submit held", "submit tick held tick", "submit held2 held2 tick held4 held1", "submit held4 held2 held1 held heldno1"},
	api.Committed: {"submit held vote", "submit held vote crash", "submit held vote tick again", "submit held vote ack crash", "submit held vote4 vote4 vote2 tick vote1 voteno2", "submit held vote cancel"},
	api.Dropped: {
		"submit cancel", "submit heldno1", "submit held2 heldno4", "submit held2 heldno2", "submit held voteno4", "submit held vote1 vote2 voteno1", "submit held cancel", "submit again", "submit crash",
		"submit held crash", "submit held vote1 vote2 crash", "submit cancel ack crash", "submit lapse", "submit held lapse", "submit held vote1 vote2 cancel", "submit cancel release held vote",
	},
	api.Released: {"submit held vote release", "submit held vote crash release", "submit held vote release crash", "submit held vote ack release", "submit held vote release freed again", "submit held vote release cancel ack tick"},
}

// peers are those of every gang that trio makes.
var peers = []int{1, 2, 4}

// trio is a gang of pods in three of the shards.
func trio(id int) api.Gang { return gang(id, 2, 1, 4, 2) }

// bench is a coordinator under test, its tape, and the gang that it is about.
type bench struct {
	c    *coord.Coord
	x    *tape.Tape
	gang int
}

// bencher is a coordinator that has other gangs in other states.
func bencher(t *testing.T, gang int) *bench {
	t.Helper()
	x := tape.New()
	b := &bench{coord.New(4, x), x, gang}
	for i, route := range []string{"submit held2", "submit held vote4", "submit held vote ack1", "submit cancel ack4", "submit held vote release freed2"} {
		o := &bench{b.c, x, []int{1, 2, 3, 6, 8}[i]}
		o.befall(t, route)
	}
	return b
}

// befall lets all of that befall the coordinator.
func (b *bench) befall(t *testing.T, what string) {
	t.Helper()
	for _, w := range strings.Fields(what) {
		switch w {
		case "submit":
			b.c.Submit(trio(b.gang))
		case "cancel":
			b.c.Cancel(b.gang)
		case "release":
			b.c.Release(b.gang)
		case "tick":
			b.c.Tick()
		case "lapse":
			for range api.Patience {
				b.c.Tick()
			}
		case "crash":
			b.x.Crash(0)
			b.c = coord.New(4, b.x)
		case "again":
			b.c = coord.New(4, b.x)
		default:
			b.hears(t, w)
		}
	}
}

// hears lets messages befall the coordinator: a word, and whom it is from, if not from all peers.
func (b *bench) hears(t *testing.T, w string) {
	t.Helper()
	word := strings.TrimRight(w, "1234")
	kind := map[string]int{"held": api.MHeld, "heldno": api.MHeld, "vote": api.MVote, "voteno": api.MVote, "ack": api.MAck, "freed": api.MFreed, "ask": api.MAsk}[word]
	if kind == 0 {
		t.Fatalf("there is no step %q", w)
	}
	for _, who := range []int{1, 2, 3, 4} {
		if w == word && who != 3 || w == fmt.Sprint(word, who) {
			b.c.Get(from(who, kind, b.gang, !strings.HasSuffix(word, "no")))
		}
	}
}

// who tells what a shard is to a gang that waits for these.
func who(state, shard int, waits []int) string {
	switch {
	case state == api.Unknown || !slices.Contains(peers, shard):
		return "s"
	case !slices.Contains(waits, shard):
		return "h"
	case len(waits) == 1:
		return "l"
	}
	return "w"
}

// without is l without that one.
func without(l []int, who int) []int {
	return slices.DeleteFunc(slices.Clone(l), func(x int) bool { return x == who })
}

// some are the peers, that one, or nobody.
func some(many, who int) []int { return [][]int{nil, {who}, peers}[many] }

// says is what an effect says.
func (e effect) says(id, who int) string {
	if e.kind == api.MPrepare {
		return prepares(id, peers, some(e.to, who)...)
	}
	return said(e.kind, id, e.yes, some(e.to, who)...)
}

// others is what c tells but of that gang.
func others(c *coord.Coord, gang int) string {
	var b strings.Builder
	for _, other := range ids {
		if other != gang {
			fmt.Fprintf(&b, "%d=%d%v ", other, c.State(other), c.Waits(other))
		}
	}
	return b.String()
}

// tries lets something befall the coordinator, from somebody, and asks for all that the effect says.
func (b *bench) tries(t *testing.T, what string, do func() []api.Msg, e effect, who int) {
	t.Helper()
	waits, rest, lines := b.c.Waits(b.gang), others(b.c, b.gang), b.x.Lines()
	got := messages(do())
	if want := e.says(b.gang, who); got != want {
		t.Errorf("%s: there is said\n%swant\n%s", what, got, want)
	}
	if state := b.c.State(b.gang); state != e.next {
		t.Errorf("%s: the state is %d, want %d", what, state, e.next)
	}
	switch e.waits {
	case one:
		waits = without(waits, who)
	case whole:
		waits = peers
	}
	if now := b.c.Waits(b.gang); !slices.Equal(now, waits) {
		t.Errorf("%s: it waits for %v, want %v", what, now, waits)
	}
	if now := others(b.c, b.gang); now != rest {
		t.Errorf("%s: other gangs were\n%s, and are\n%s", what, rest, now)
	}
	if e.writes != "" {
		lines = append(lines, fmt.Sprint(e.writes, " ", b.gang))
	}
	keeps(t, what, b.x, lines...)
}

// lasts asks for what a crash leaves right now: what is decided, and for the rest Dropped; all are waited for.
func (b *bench) lasts(t *testing.T, what string) {
	t.Helper()
	want, waits := b.c.State(b.gang), peers
	switch want {
	case api.Holding, api.Preparing:
		want = api.Dropped
	case api.Unknown:
		waits = nil
	}
	b.x.Crash(0)
	c := coord.New(4, b.x)
	if got := c.State(b.gang); got != want || !slices.Equal(c.Waits(b.gang), waits) {
		t.Errorf("P1101, P1105: %s: behind a crash the state is %d, and it waits for %v; want %d, %v", what, got, c.Waits(b.gang), want, waits)
	}
}

// ending is the kind of message behind which one is waited for no more.
var ending = [6]int{api.Holding: api.MHeld, api.Preparing: api.MVote, api.Committed: api.MAck, api.Dropped: api.MAck, api.Released: api.MFreed}

// each goes by every way into each state, and lets each choice of peers be waited for no more there.
func each(t *testing.T, do func(what string, b *bench, state int, waits []int)) {
	t.Helper()
	for state, ways := range routes {
		for _, route := range ways {
			for bits := range 8 {
				b := bencher(t, 5)
				b.befall(t, route)
				waits := slices.Clone(peers)
				for i, who := range peers {
					if bits>>i&1 == 1 {
						b.c.Get(from(who, ending[state], 5, true))
						waits = without(waits, who)
					}
				}
				if state == api.Unknown {
					waits = nil
				}
				what := fmt.Sprintf("in %d by %q, waiting for %v", state, route, waits)
				if open := state == api.Holding || state == api.Preparing; open && len(waits) == 0 || state == api.Unknown && bits > 0 {
					continue
				}
				if got := b.c.State(5); got != state || !slices.Equal(b.c.Waits(5), waits) {
					t.Fatalf("P1103: %s: the state is %d, and it waits for %v", what, got, b.c.Waits(5))
				}
				do(what, b, state, waits)
			}
		}
	}
}

// P1103: each row of the table, and twice: what comes again finds what the first one left.
func TestTable(t *testing.T) {
	came := map[string]int{}
	for _, kind := range kinds {
		for _, shard := range []int{1, 2, 3, 4} {
			for _, yes := range []bool{false, true} {
				each(t, func(what string, b *bench, state int, waits []int) {
					m := from(shard, kind, 5, yes)
					if shard%2 == 0 {
						m.Pods, m.Peers = trio(9).Pods, []int{3}
					}
					for range 2 {
						whose := who(b.c.State(5), shard, b.c.Waits(5))
						e := ruled(kind, yes, b.c.State(5), whose)
						came[fmt.Sprint(kind, yes, b.c.State(5), whose)]++
						b.tries(t, fmt.Sprintf("P1103: kind %d, %v, from %d (%s), %s", kind, yes, shard, whose, what), func() []api.Msg { return b.c.Get(m) }, e, shard)
					}
					b.lasts(t, fmt.Sprintf("behind kind %d, %v, from %d, %s", kind, yes, shard, what))
				})
			}
		}
	}
	for _, r := range table {
		for _, y := range r.yes {
			for _, w := range r.who {
				if name := fmt.Sprint(r.kind, y == 'y', r.state, string(w)); came[name] < 4 {
					t.Errorf("%s came up %d times", name, came[name])
				}
			}
		}
	}
}

// orders are all orders of l.
func orders(l []int) [][]int {
	if len(l) == 0 {
		return [][]int{nil}
	}
	var all [][]int
	for _, first := range l {
		for _, rest := range orders(without(l, first)) {
			all = append(all, append([]int{first}, rest...))
		}
	}
	return all
}

// P1103: it is prepared when the last one holds it, and committed when the last one has voted yes, in whatever order, each message coming twice; not ahead of it.
func TestOrders(t *testing.T) {
	for bits := 1; bits < 16; bits++ {
		var of []int
		for who := 1; who <= 4; who++ {
			if bits>>(who-1)&1 == 1 {
				of = append(of, who)
			}
		}
		for _, order := range orders(of) {
			x := tape.New()
			c := coord.New(4, x)
			submits(t, c, gang(5, order...))
			begun := "gang 5 " + strings.ReplaceAll(strings.Trim(fmt.Sprint(of), "[]"), " ", ",")
			for _, round := range []struct {
				state, kind, next int
				says              string
				lines             []string
			}{
				{api.Holding, api.MHeld, api.Preparing, prepares(5, of, of...), []string{begun}},
				{api.Preparing, api.MVote, api.Committed, said(api.MDecide, 5, true, of...), []string{begun, "commit 5"}},
			} {
				waits := of
				for _, who := range order[:len(order)-1] {
					waits = without(waits, who)
					for range 2 {
						gets(t, c, from(who, round.kind, 5, true), "")
						tells(t, fmt.Sprint("P1103: not all: ", order), c, fmt.Sprintf("5 / 5=%d%v", round.state, waits))
					}
				}
				keeps(t, "P1103: not all", x, begun)
				gets(t, c, from(order[len(order)-1], round.kind, 5, true), round.says)
				tells(t, fmt.Sprint("P1103: all: ", order), c, fmt.Sprintf("5 / 5=%d%v", round.next, of))
				keeps(t, "P1103: all", x, round.lines...)
			}
		}
	}
}

// P1103: a no of one of them is a no for all, whenever it comes.
func TestOneNo(t *testing.T) {
	for _, order := range orders([]int{1, 2, 3, 4}) {
		for n := range 8 {
			x := tape.New()
			c := coord.New(4, x)
			submits(t, c, gang(5, 1, 2, 3, 4))
			for i := range n {
				c.Get(from(order[i%4], []int{api.MHeld, api.MVote}[i/4], 5, true))
			}
			gets(t, c, from(order[n%4], []int{api.MHeld, api.MVote}[n/4], 5, false), said(api.MDecide, 5, false, 1, 2, 3, 4))
			tells(t, "P1103: behind a no", c, "5 / 5=4[1 2 3 4]")
			for _, who := range order {
				gets(t, c, from(who, api.MHeld, 5, true), "")
				gets(t, c, from(who, api.MVote, 5, true), said(api.MDecide, 5, false, who))
			}
			keeps(t, "P1103: behind a no", x, "gang 5 1,2,3,4")
			tells(t, "P1105: behind a no", c, "5 / 5=4[1 2 3 4]")
		}
	}
}

// P1103: who asks is told, whoever it is, of whatever gang; of those that are not known no.
func TestAsk(t *testing.T) {
	b := bencher(t, 5)
	yes := map[int]bool{3: true, 8: true}
	for _, gang := range ids {
		for who := 1; who <= 4; who++ {
			want := said(api.MTell, gang, yes[gang], who)
			if gang == 1 || gang == 2 {
				want = ""
			}
			before, lines := told(b.c), b.x.Lines()
			gets(t, b.c, from(who, api.MAsk, gang, false), want)
			gets(t, b.c, from(who, api.MAsk, gang, true), want)
			tells(t, "P1103: behind MAsk", b.c, before)
			keeps(t, "P1103: behind MAsk", b.x, lines...)
		}
	}
	// A shard that the coordinator was not made for is one, too.
	gets(t, coord.New(1, tape.New()), from(4, api.MAsk, 7, false), said(api.MTell, 7, false, 4))
}
