package shard_test

import (
	"fmt"
	"slices"
	"strings"
	"testing"

	"joinery/api"
	"joinery/shard"
	"joinery/tape"
)

// cell is what comes of a message in a state: the state behind it, the kind of the answer (0: none) and whether it is yes, the records, and whether they last.
type cell struct {
	next, answer int
	yes          bool
	writes       string
	forced       bool
}

// row is the cells of a kind of messages, a state each; where both is so, Yes makes no difference.
type row struct {
	kind      int
	yes, both bool
	cells     [6]cell
}

// table is P1002's.
var table = []row{
	{api.MHold, false, true, [6]cell{{1, api.MHeld, true, "", false}, {1, api.MHeld, true, "", false}, {2, api.MHeld, true, "", false}, {3, api.MHeld, true, "", false}, {4, api.MHeld, false, "", false}, {5, api.MHeld, true, "", false}}},
	{api.MPrepare, false, true, [6]cell{{0, api.MVote, false, "", false}, {2, api.MVote, true, "prepare", true}, {2, api.MVote, true, "", false}, {3, api.MVote, true, "", false}, {4, api.MVote, false, "", false}, {5, api.MVote, true, "", false}}},
	{api.MDecide, true, false, [6]cell{{0, 0, false, "", false}, {1, 0, false, "", false}, {3, api.MAck, false, "commit", true}, {3, api.MAck, false, "", false}, {4, 0, false, "", false}, {5, api.MAck, false, "", false}}},
	{api.MDecide, false, false, [6]cell{{0, api.MAck, false, "", false}, {4, api.MAck, false, "abort", false}, {4, api.MAck, false, "abort", false}, {3, 0, false, "", false}, {4, api.MAck, false, "", false}, {5, 0, false, "", false}}},
	{api.MAsk, false, true, [6]cell{{4, api.MTell, false, "abort", true}, {4, api.MTell, false, "abort", true}, {2, 0, false, "", false}, {3, api.MTell, true, "", false}, {4, api.MTell, false, "", false}, {5, api.MTell, true, "", false}}},
	{api.MTell, true, false, [6]cell{{0, 0, false, "", false}, {1, 0, false, "", false}, {3, 0, false, "commit", true}, {3, 0, false, "", false}, {4, 0, false, "", false}, {5, 0, false, "", false}}},
	{api.MTell, false, false, [6]cell{{0, 0, false, "", false}, {1, 0, false, "", false}, {4, 0, false, "abort", false}, {3, 0, false, "", false}, {4, 0, false, "", false}, {5, 0, false, "", false}}},
	{api.MFree, false, true, [6]cell{{0, 0, false, "", false}, {1, 0, false, "", false}, {5, api.MFreed, false, "commit release", true}, {5, api.MFreed, false, "release", true}, {4, 0, false, "", false}, {5, api.MFreed, false, "", false}}},
}

// ruled tells what comes of a message of that kind in that state; of one that the table has not, nothing.
func ruled(kind int, yes bool, state int) cell {
	for _, r := range table {
		if r.kind == kind && (r.both || r.yes == yes) {
			return r.cells[state]
		}
	}
	return cell{next: state}
}

// kinds are those that there are, and some that are none.
var kinds = []int{1, 2, 3, 4, 5, 6, 7, 8, 9, 10, 0, -1, 11, most, least}

// routes are ways into each state, from Nothing on: what befalls the shard, one by one.
var routes = [6][]string{
	api.Nothing:  {"", "hold lapse", "hold again", "hold crash", "hold abort crash", "much"},
	api.Held:     {"hold", "hold tick hold", "hold lapse hold", "hold crash hold", "hold abort crash hold", "much hold"},
	api.Prepared: {"hold prepare", "hold prepare again", "hold prepare crash", "hold prepare abort crash", "hold prepare tellno crash", "hold prepare tick tick"},
	api.Bound:    {"hold prepare commit", "hold prepare tellyes", "hold prepare commit crash", "hold prepare crash tellyes again", "hold prepare abort crash commit"},
	api.Aborted:  {"ask", "hold ask", "hold abort", "hold prepare abort", "hold prepare tellno", "ask crash", "hold ask crash", "hold prepare abort again", "hold lapse ask"},
	api.Freed:    {"hold prepare free", "hold prepare commit free", "hold prepare free crash", "hold prepare tellyes free crash", "hold prepare crash free again"},
}

// two are pods of every gang here.
func two() []api.Pod {
	return []api.Pod{{Name: "p", Shard: 1, Need: of(1, 2), Alone: true}, pod("q", 2, 1)}
}

// bench is a shard under test, its tape, and the gang that it is about.
type bench struct {
	s        *shard.Shard
	x        *tape.Tape
	me, gang int
}

// bencher is a shard in which other gangs are in other states.
func bencher(t *testing.T, me, gang int) *bench {
	t.Helper()
	x := tape.New()
	b := &bench{shard.New(me, 0, x), x, me, gang}
	for _, n := range []api.Node{node("a", 9, 9), node("b", 12, 12)} {
		check(t, "P1001: Node", b.s.Node(n), api.OK)
	}
	b.befallOther(t, 2, "hold prepare")
	b.befallOther(t, 3, "hold prepare commit")
	b.befallOther(t, 4, "ask")
	b.befallOther(t, 6, "hold prepare free")
	return b
}

// befallOther lets all of that befall another gang. An abort leaves a record that does not last, so that it can be told whether more was synced than should be.
func (b *bench) befallOther(t *testing.T, gang int, what string) {
	t.Helper()
	o := &bench{b.s, b.x, b.me, gang}
	o.befall(t, what)
}

// befall lets all of that befall the shard.
func (b *bench) befall(t *testing.T, what string) {
	t.Helper()
	for _, w := range strings.Fields(what) {
		switch w {
		case "hold":
			b.send(api.MHold, false)
		case "prepare":
			b.send(api.MPrepare, false)
		case "commit":
			b.send(api.MDecide, true)
		case "abort":
			b.send(api.MDecide, false)
		case "ask":
			b.send(api.MAsk, false)
		case "tellyes":
			b.send(api.MTell, true)
		case "tellno":
			b.send(api.MTell, false)
		case "free":
			b.send(api.MFree, false)
		case "much":
			b.s.Get(api.Msg{Kind: api.MHold, To: b.me, Gang: b.gang, Pods: []api.Pod{pod("p", 50, 50)}})
		case "tick":
			b.s.Tick()
		case "lapse":
			for range api.Lease {
				b.s.Tick()
			}
		case "crash":
			b.x.Crash(0)
			b.s = shard.New(b.me, 0, b.x)
		case "again":
			b.s = shard.New(b.me, 0, b.x)
		default:
			t.Fatalf("there is no step %q", w)
		}
	}
}

// msg is a message of that kind; one that has more than its kind needs says the same.
func (b *bench) msg(kind int, yes, more bool) api.Msg {
	m := api.Msg{Kind: kind, To: b.me, Gang: b.gang, Yes: yes}
	if kind == api.MHold || more {
		m.Pods = two()
	}
	if kind == api.MPrepare || more {
		m.Peers = []int{1, 3, 4}
	}
	return m
}

func (b *bench) send(kind int, yes bool) []api.Msg { return b.s.Get(b.msg(kind, yes, false)) }

// placed tells whether a gang in that state has places.
func placed(state int) bool {
	return state == api.Held || state == api.Prepared || state == api.Bound
}

// lines are the records of that gang that a cell names.
func (c cell) lines(gang int, at []api.Place) []string {
	var l []string
	for _, w := range strings.Fields(c.writes) {
		s := fmt.Sprint(w, " ", gang)
		if w == "prepare" {
			s += fmt.Sprintf(" 1,3,4 p>%s:1,2! q>%s:2,1", at[0].Node, at[1].Node)
		}
		l = append(l, s)
	}
	return l
}

// others is what s tells but of that gang.
func others(s *shard.Shard, gang int) string {
	var b strings.Builder
	for _, other := range gangs {
		if other != gang {
			fmt.Fprintln(&b, other, s.State(other), s.Places(other))
		}
	}
	return b.String()
}

// pods tells how many pods stand on all nodes.
func pods(s *shard.Shard) int {
	n := 0
	for _, name := range names {
		_, k := s.Used(name)
		n += k
	}
	return n
}

// try hands the shard a message, and asks for all that the cell says.
func (b *bench) try(t *testing.T, what string, m api.Msg, c cell) {
	t.Helper()
	was, lines, lasting := b.s.Places(b.gang), b.x.Lines(), b.x.Lasting()
	rest, stood := others(b.s, b.gang), pods(b.s)-len(was)
	got := messages(b.s.Get(m))
	want := ""
	if c.answer != 0 {
		want = messages([]api.Msg{{Kind: c.answer, From: b.me, To: m.From, Gang: b.gang, Yes: c.yes}})
	}
	if got != want {
		t.Errorf("P1002: %s: the answer is\n%swant\n%s", what, got, want)
	}
	if state := b.s.State(b.gang); state != c.next {
		t.Errorf("P1002: %s: the state is %d, want %d", what, state, c.next)
	}
	at := b.s.Places(b.gang)
	if placed(c.next) != (len(at) == 2) || len(at) != 0 && len(at) != 2 || len(was) > 0 && len(at) > 0 && !slices.Equal(was, at) {
		t.Errorf("P1002: %s: the places were %v, and are %v", what, was, at)
	}
	if pods(b.s) != stood+len(at) {
		t.Errorf("P1002: %s: %d pods stand there, want %d", what, pods(b.s), stood+len(at))
	}
	if others(b.s, b.gang) != rest {
		t.Errorf("P1002: %s: other gangs were\n%sand are\n%s", what, rest, others(b.s, b.gang))
	}
	lines = append(lines, c.lines(b.gang, was)...)
	if c.forced {
		lasting = len(lines)
	}
	keeps(t, "P1002: "+what, b.x, lasting, lines...)
}

// each goes by every way into each state, with every kind of message.
func each(t *testing.T, do func(what string, state int, route string, m api.Msg)) {
	t.Helper()
	for state, ways := range routes {
		for _, route := range ways {
			for _, kind := range kinds {
				for _, yes := range []bool{false, true} {
					for _, more := range []bool{false, true} {
						m := (&bench{me: 1, gang: 5}).msg(kind, yes, more)
						do(fmt.Sprintf("kind %d, %v, in %d by %q", kind, yes, state, route), state, route, m)
					}
				}
			}
		}
	}
}

// P1002: each row of the table.
func TestTable(t *testing.T) {
	each(t, func(what string, state int, route string, m api.Msg) {
		b := bencher(t, 1, 5)
		b.befall(t, route)
		b.befallOther(t, 77, "hold abort")
		in(t, b.s, 5, state)
		b.try(t, what, m, ruled(m.Kind, m.Yes, state))
	})
}

// P1002: a message that comes twice is answered in the state that is there by then; and so is any other one behind it.
func TestTwice(t *testing.T) {
	each(t, func(what string, state int, route string, m api.Msg) {
		b := bencher(t, 1, 5)
		b.befall(t, route)
		for other := 7; other < 10; other++ {
			b.befallOther(t, other, "hold abort")
			c := ruled(m.Kind, m.Yes, state)
			b.try(t, what+", once more", m, c)
			state = c.next
		}
	})
}

// lasts is the state that a crash leaves.
func lasts(state int) int {
	if state == api.Held {
		return api.Nothing
	}
	return state
}

// P1002, T4: a crash right behind a message leaves what was forced; of what was not, as much as it keeps.
func TestCrashBehind(t *testing.T) {
	each(t, func(what string, state int, route string, m api.Msg) {
		c := ruled(m.Kind, m.Yes, state)
		for keep := range 3 {
			b := bencher(t, 1, 5)
			b.befall(t, route+" again")
			if b.s.State(5) != state {
				// What is held does not come back.
				b.befall(t, "hold")
			}
			b.x.Sync()
			b.send(m.Kind, m.Yes)
			want := lasts(c.next)
			if c.writes != "" && !c.forced && keep == 0 {
				want = lasts(state)
			}
			b.x.Crash(keep)
			s := shard.New(1, 0, b.x)
			if got := s.State(5); got != want {
				t.Errorf("P1002: %s: behind a crash that keeps %d the state is %d, want %d", what, keep, got, want)
			}
			if placed(want) != (len(s.Places(5)) == 2) {
				t.Errorf("P1002: %s: behind a crash that keeps %d the places are %v", what, keep, s.Places(5))
			}
		}
	})
}

// P1002: the answer is to whom the message came from, from the shard, of its gang: whoever they are.
func TestToWhom(t *testing.T) {
	for me := 1; me <= 4; me++ {
		for _, gang := range []int{1, 5, 999999} {
			for state, ways := range routes {
				for _, kind := range kinds[:10] {
					for who := range 5 {
						b := bencher(t, me, gang)
						b.befall(t, ways[0])
						b.try(t, fmt.Sprintf("shard %d, gang %d, from %d, kind %d, in %d", me, gang, who, kind, state), from(who, b.msg(kind, true, false)), ruled(kind, true, state))
					}
				}
			}
		}
	}
}
