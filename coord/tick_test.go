package coord_test

import (
	"fmt"
	"testing"

	"joinery/api"
	"joinery/coord"
	"joinery/tape"
)

// ticks asks for what a tick says.
func ticks(t *testing.T, what string, c *coord.Coord, want string) {
	t.Helper()
	if got := messages(c.Tick()); got != want {
		t.Errorf("P1104: %s: there is said\n%swant\n%s", what, got, want)
	}
}

// P1104: a gang that is held by nobody is dropped at its eighth tick, and not ahead of it; till then it is said again to all.
func TestPatience(t *testing.T) {
	x := tape.New()
	c := coord.New(4, x)
	g := gang(5, 3, 1, 3)
	submits(t, c, g)
	for i := 1; i < 8; i++ {
		ticks(t, fmt.Sprint("tick ", i), c, holds(g, 1, 3))
		tells(t, fmt.Sprint("P1104: behind tick ", i), c, "5 / 5=1[1 3]")
	}
	ticks(t, "tick 8", c, said(api.MDecide, 5, false, 1, 3))
	tells(t, "P1104: behind tick 8", c, "5 / 5=4[1 3]")
	keeps(t, "P1104: behind tick 8", x, "gang 5 1,3")
	gets(t, c, from(1, api.MHeld, 5, true), "")
	gets(t, c, from(1, api.MVote, 5, true), said(api.MDecide, 5, false, 1))
}

// P1104: the age goes on from Holding to Preparing; neither a yes nor a message that asks for nothing sets it anew, whenever it comes.
func TestOneAge(t *testing.T) {
	g := gang(5, 1, 2, 4)
	for first := 0; first < 8; first++ {
		for second := first; second < 8; second++ {
			for third := second; third < 8; third++ {
				for fourth := third; fourth < 8; fourth++ {
					c := coord.New(4, tape.New())
					submits(t, c, g)
					what := fmt.Sprint("held behind ", first, ", by all behind ", second, ", vote behind ", third, ", behind ", fourth, ", tick ")
					state := "1[1 2 4]"
					again := holds(g, 1, 2, 4)
					for i := 0; i < 8; i++ {
						if i == first {
							all(c, api.MHeld, 5, 2)
							state, again = "1[1 4]", holds(g, 1, 4)
						}
						if i == second {
							all(c, api.MHeld, 5, 4, 1)
							state, again = "2[1 2 4]", prepares(5, peers, 1, 2, 4)
						}
						if i == third {
							all(c, api.MVote, 5, 1)
							state, again = "2[2 4]", prepares(5, peers, 2, 4)
						}
						if i == fourth {
							all(c, api.MVote, 5, 4)
							state, again = "2[2]", prepares(5, peers, 2)
						}
						for _, m := range []api.Msg{from(2, api.MAck, 5, true), from(3, api.MHeld, 5, true), from(1, api.MFreed, 5, true), from(1, api.MAsk, 5, true)} {
							gets(t, c, m, "")
						}
						if i == 7 {
							state, again = "4[1 2 4]", said(api.MDecide, 5, false, 1, 2, 4)
						}
						ticks(t, fmt.Sprint(what, i+1), c, again)
						tells(t, fmt.Sprint("P1104: ", what, i+1), c, "5 / 5="+state)
					}
				}
			}
		}
	}
}

// P1104: the last yes, ahead of the eighth tick, commits it; and what is committed has no age any more.
func TestInTime(t *testing.T) {
	for waited := range 8 {
		c := coord.New(4, tape.New())
		submits(t, c, gang(5, 2, 3))
		for range waited {
			c.Tick()
		}
		all(c, api.MHeld, 5, 2, 3)
		all(c, api.MVote, 5, 3, 2)
		for i := range 30 {
			ticks(t, fmt.Sprint("committed behind ", waited, ", tick ", i+1), c, said(api.MDecide, 5, true, 2, 3))
		}
		tells(t, "P1104", c, "5 / 5=3[2 3]")
	}
}

// P1104: what is decided is said again for ever, to those alone that are waited for; when it waits for none, nothing is said.
func TestSaidAgain(t *testing.T) {
	for state, say := range map[int]func(to ...int) string{
		api.Committed: func(to ...int) string { return said(api.MDecide, 5, true, to...) },
		api.Dropped:   func(to ...int) string { return said(api.MDecide, 5, false, to...) },
		api.Released:  func(to ...int) string { return said(api.MFree, 5, false, to...) },
	} {
		for _, route := range routes[state] {
			for _, order := range orders(peers) {
				x := tape.New()
				b := &bench{coord.New(4, x), x, 5}
				b.befall(t, route)
				waits := peers
				for _, who := range append(order, 3) {
					for i := range 10 {
						ticks(t, fmt.Sprintf("in %d by %q, tick %d, waiting for %v", state, route, i, waits), b.c, say(waits...))
					}
					b.c.Get(from(who, ending[state], 5, false))
					waits = without(waits, who)
					tells(t, "P1104", b.c, fmt.Sprintf("5 / 5=%d%v", state, waits))
				}
			}
		}
	}
}

// P1104: all gangs have their tick, by ids, whatever the order they came in, each by its own age.
func TestTickById(t *testing.T) {
	x := tape.New()
	c := coord.New(4, x)
	for _, id := range []int{10, 2, 999999} {
		submits(t, c, gang(id, 2, 1))
	}
	committed(t, c, 77, 3)
	for range 3 {
		c.Tick()
	}
	submits(t, c, gang(1, 4))
	submits(t, c, gang(9, 4, 3))
	committed(t, c, 3, 4)
	c.Release(3)
	all(c, api.MHeld, 10, 2, 1)
	all(c, api.MVote, 10, 1)
	all(c, api.MHeld, 9, 4)
	c.Cancel(2)
	all(c, api.MAck, 2, 1)
	rest := said(api.MDecide, 2, false, 2) + said(api.MFree, 3, false, 4)
	for i := 4; i < 8; i++ {
		ticks(t, fmt.Sprint("tick ", i), c, holds(gang(1, 4), 4)+rest+holds(gang(9, 4, 3), 3)+prepares(10, []int{1, 2}, 2)+said(api.MDecide, 77, true, 3)+holds(gang(999999, 2, 1), 1, 2))
	}
	ticks(t, "tick 8", c, holds(gang(1, 4), 4)+rest+holds(gang(9, 4, 3), 3)+said(api.MDecide, 10, false, 1, 2)+said(api.MDecide, 77, true, 3)+said(api.MDecide, 999999, false, 1, 2))
	all(c, api.MAck, 77, 3)
	all(c, api.MHeld, 1, 4)
	all(c, api.MVote, 1, 4)
	for i := 9; i < 11; i++ {
		ticks(t, fmt.Sprint("tick ", i), c, said(api.MDecide, 1, true, 4)+rest+holds(gang(9, 4, 3), 3)+said(api.MDecide, 10, false, 1, 2)+said(api.MDecide, 999999, false, 1, 2))
	}
	ticks(t, "tick 11", c, said(api.MDecide, 1, true, 4)+rest+said(api.MDecide, 9, false, 3, 4)+said(api.MDecide, 10, false, 1, 2)+said(api.MDecide, 999999, false, 1, 2))
	tells(t, "P1104", c, "1 2 3 9 10 77 999999 / 1=3[4] 2=4[2] 3=5[4] 9=4[3 4] 10=4[1 2] 77=3[] 999999=4[1 2]")
	keeps(t, "P1104", x, "gang 10 1,2", "gang 2 1,2", "gang 999999 1,2", "gang 77 3", "commit 77", "gang 1 4", "gang 9 3,4", "gang 3 4", "commit 3", "release 3", "commit 1")
}

// P1102, P1104: a gang keeps its pods as they were: each shard is told of its own, in their order, at each tick.
func TestSlices(t *testing.T) {
	g := api.Gang{Id: 5, Pods: []api.Pod{
		{Name: "w", Shard: 4, Need: of(1, 2), Picks: []string{"gpu", "ssd"}}, {Name: "b", Shard: 1, Need: of(3, 4), Bears: []string{"hot"}, Alone: true}, {Name: "a", Shard: 4, Need: of(5, 6), Picks: []string{"ω"}, Bears: []string{"a", "b", "c", "d"}},
		{Name: "z", Shard: 1}, {Name: "α", Shard: 2, Need: of(api.Most, api.Most)}, {Name: "y", Shard: 4, Alone: true},
	}}
	c := coord.New(4, tape.New())
	submits(t, c, g)
	for i := range 3 {
		ticks(t, fmt.Sprint("tick ", i), c, holds(g, 1, 2, 4))
	}
	all(c, api.MHeld, 5, 2)
	for i := range 3 {
		ticks(t, fmt.Sprint("tick ", i), c, holds(g, 1, 4))
	}
}
