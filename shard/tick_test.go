package shard_test

import (
	"fmt"
	"slices"
	"testing"

	"joinery/api"
	"joinery/ledger"
	"joinery/pack"
	"joinery/shard"
	"joinery/tape"
)

// asked are what a gang in shard 1 asks, of these.
func asked(gang int, of ...int) string {
	var l []api.Msg
	for _, who := range of {
		l = append(l, api.Msg{Kind: api.MAsk, From: 1, To: who, Gang: gang})
	}
	return messages(l)
}

// ticks asks for what a tick tells.
func ticks(t *testing.T, what string, s *shard.Shard, want string) {
	t.Helper()
	if got := messages(s.Tick()); got != want {
		t.Errorf("P1003: %s:\n%swant\n%s", what, got, want)
	}
}

// idle lets ticks go by that tell nothing.
func idle(t *testing.T, s *shard.Shard, n int) {
	t.Helper()
	for i := range n {
		ticks(t, fmt.Sprint("tick ", i+1), s, "")
	}
}

// P1002: what is held goes where pack.Pack says, by mode, beside what there is.
func TestHoldPacks(t *testing.T) {
	nodes := []api.Node{
		{Name: "a", Cap: of(9, 9), Marks: []string{"gpu", "ssd"}}, {Name: "b", Cap: of(30, 12), Taints: []string{"hot"}},
		{Name: "c", Cap: of(6, 20), Marks: []string{"ssd"}}, {Name: "d", Cap: of(99, 99), Closed: true},
	}
	rows := [][]api.Pod{
		{pod("p", 1, 1)}, {pod("p", 9, 9), pod("q", 6, 1)}, {pod("p", 9, 9), pod("q", 9, 9)}, {pod("p", 0, 0), pod("q", 0, 0), pod("r", 0, 0)},
		{{Name: "p", Shard: 4, Need: of(1, 1), Picks: []string{"gpu"}}}, {{Name: "p", Shard: 2, Picks: []string{"gpu", "hot"}}}, {{Name: "p", Shard: 3, Need: of(20, 1), Bears: []string{"hot"}}},
		{{Name: "p", Shard: 1, Alone: true}, pod("q", 1, 1), pod("r", 1, 1)}, {{Name: "p", Shard: 1, Alone: true}, {Name: "q", Shard: 1, Alone: true}, {Name: "r", Shard: 1, Alone: true}},
		{pod("h", 1, 2), pod("g", 2, 1), pod("f", 3, 3), pod("e", 0, 1), pod("d", 1, 0), pod("c", 1, 1), pod("b", 2, 2), pod("α", 1, 1)}, {pod("p", api.Most, 0)},
	}
	counts := map[api.Errno]int{}
	for mode := range 3 {
		for first := range rows {
			s, l := shard.New(1, mode, tape.New()), ledger.New()
			for _, n := range nodes {
				s.Node(n)
				l.Put(n)
			}
			// Each gang finds those ahead of it.
			for i := range rows {
				gang, row := i+1, rows[(first+i)%len(rows)]
				want, err := pack.Pack(l, gang, row, mode)
				counts[err]++
				gets(t, s, hold(gang, row...), reply(api.MHeld, gang, err == api.OK))
				if got := s.Places(gang); !slices.Equal(got, want) {
					t.Errorf("P1002: by mode %d %+v goes to %+v, want %+v", mode, row, got, want)
				}
			}
		}
	}
	if counts[api.OK] < 50 || counts[api.ErrRoom] < 50 {
		t.Errorf("%v", counts)
	}
}

// P1002: a gang that does not fit holds nothing, not even for a part of its pods, and leaves no record; it fits as soon as there is room.
func TestFitsAsSoonAsThereIsRoom(t *testing.T) {
	for _, x := range []struct {
		what string
		room func(s *shard.Shard)
	}{
		{"the other one's lease runs out", func(s *shard.Shard) {
			for range 6 {
				s.Tick()
			}
		}},
		{"the other one is dropped", func(s *shard.Shard) { s.Get(to(api.MDecide, 2, false)) }},
		{"the other one is asked for", func(s *shard.Shard) { s.Get(from(3, to(api.MAsk, 2, false))) }},
		{"the other one is dropped, prepared", func(s *shard.Shard) { s.Get(prepare(2, 1)); s.Get(to(api.MDecide, 2, false)) }},
		{"the other one is told no", func(s *shard.Shard) { s.Get(prepare(2, 1)); s.Get(from(2, to(api.MTell, 2, false))) }},
		{"the other one is freed", func(s *shard.Shard) {
			s.Get(prepare(2, 1))
			s.Get(to(api.MDecide, 2, true))
			s.Get(to(api.MFree, 2, false))
		}},
		{"the other one is freed, prepared", func(s *shard.Shard) { s.Get(prepare(2, 1)); s.Get(to(api.MFree, 2, false)) }},
		{"a node more", func(s *shard.Shard) { s.Node(node("b", 4, 4)) }},
		{"the node is put anew", func(s *shard.Shard) { s.Node(node("a", 9, 9)) }},
	} {
		s, y := with(t, node("a", 5, 5))
		gets(t, s, hold(2, pod("p", 2, 2)), reply(api.MHeld, 2, true))
		before := told(s)
		for range 3 {
			gets(t, s, hold(1, pod("p", 3, 3), pod("q", 1, 1)), reply(api.MHeld, 1, false))
			if told(s) != before {
				t.Errorf("P1002: what did not go left\n%s, want\n%s", told(s), before)
			}
			keeps(t, "P1002: behind what did not go", y, 1, "node a:5,5")
		}
		gets(t, s, prepare(1, 1), reply(api.MVote, 1, false))
		x.room(s)
		if got := messages(s.Get(hold(1, pod("p", 3, 3), pod("q", 1, 1)))); got != reply(api.MHeld, 1, true) {
			t.Errorf("P1002: behind this, that %s: %s", x.what, got)
		}
		if s.State(1) != api.Held || len(s.Places(1)) != 2 {
			t.Errorf("P1002: behind this, that %s: state %d, %+v", x.what, s.State(1), s.Places(1))
		}
	}
}

// P1002: while a gang is held, its pods are no longer looked at: another hold does not place it anew.
func TestHeldStays(t *testing.T) {
	s, x := with(t, node("a", 5, 5))
	gets(t, s, hold(1, pod("p", 2, 2)), reply(api.MHeld, 1, true))
	s.Node(node("b", 99, 99))
	before := told(s)
	for _, m := range []api.Msg{hold(1, pod("q", 3, 3)), hold(1, pod("p", 50, 50), pod("q", 50, 50)), hold(1, pod("p", 200, 200))} {
		gets(t, s, m, reply(api.MHeld, 1, true))
		if told(s) != before {
			t.Errorf("P1002: another hold left\n%s, want\n%s", told(s), before)
		}
	}
	gets(t, s, prepare(1, 1, 2), reply(api.MVote, 1, true))
	gets(t, s, prepare(1, 3, 4), reply(api.MVote, 1, true))
	idle(t, s, 3)
	ticks(t, "tick 4", s, asked(1, 0, 2))
	keeps(t, "P1002", x, 3, "node a:5,5", "node b:99,99", "prepare 1 1,2 p>a:2,2")
}

// P1003: the lease is 6: the room is free behind the sixth tick, and not ahead of it; what it was is forgotten, and nothing is recorded.
func TestLease(t *testing.T) {
	s, x := with(t, node("a", 3, 3))
	for round := range 3 {
		gets(t, s, hold(1, pod("p", 2, 2)), reply(api.MHeld, 1, true))
		for i := 1; i <= 6; i++ {
			gets(t, s, hold(2, pod("p", 2, 2)), reply(api.MHeld, 2, false))
			ticks(t, fmt.Sprint("round ", round, ", tick ", i), s, "")
			v, pods := s.Used("a")
			if (s.State(1) == api.Held) != (i < 6) || (len(s.Places(1)) == 1) != (i < 6) || (v == of(2, 2)) != (i < 6) || (pods == 1) != (i < 6) {
				t.Errorf("P1003: round %d, tick %d: state %d, places %+v, used %v by %d", round, i, s.State(1), s.Places(1), v, pods)
			}
		}
		in(t, s, 1, api.Nothing)
		gets(t, s, prepare(1, 1), reply(api.MVote, 1, false))
	}
	gets(t, s, hold(2, pod("p", 2, 2)), reply(api.MHeld, 2, true))
	keeps(t, "P1003: behind a lease", x, 1, "node a:3,3")
}

// P1003: each hold that comes again sets the lease anew, at any tick of it; a message to another gang, or one that asks for nothing, does not.
func TestLeaseAnew(t *testing.T) {
	for first := range 6 {
		for second := range 6 {
			s, _ := with(t, node("a", 9, 9))
			gets(t, s, hold(1, pod("p", 2, 2)), reply(api.MHeld, 1, true))
			for _, n := range []int{first, second} {
				idle(t, s, n)
				gets(t, s, hold(1, pod("p", 2, 2)), reply(api.MHeld, 1, true))
			}
			for i := 1; i <= 6; i++ {
				in(t, s, 1, api.Held)
				gets(t, s, hold(2, pod("p", 2, 2)), reply(api.MHeld, 2, true))
				s.Get(prepare(3, 1))
				for _, m := range []api.Msg{to(api.MDecide, 1, true), to(api.MTell, 1, true), to(api.MTell, 1, false), to(api.MFree, 1, false), to(api.MHeld, 1, true)} {
					gets(t, s, m, "")
				}
				ticks(t, "a tick", s, "")
			}
			in(t, s, 1, api.Nothing)
			in(t, s, 2, api.Held)
		}
	}
}

// P1003: what is prepared has no lease any more.
func TestPreparedStays(t *testing.T) {
	for waited := range 6 {
		s, _ := with(t, node("a", 9, 9))
		s.Get(hold(1, pod("p", 2, 2)))
		idle(t, s, waited)
		gets(t, s, prepare(1, 1, 2), reply(api.MVote, 1, true))
		for i := 1; i <= 100; i++ {
			want := ""
			if i >= 4 {
				want = asked(1, 0, 2)
			}
			ticks(t, fmt.Sprint("tick ", i), s, want)
			in(t, s, 1, api.Prepared)
		}
		if v, n := s.Used("a"); v != of(2, 2) || n != 1 {
			t.Errorf("P1003: used %v by %d", v, n)
		}
	}
}

// P1003: no message sets the age of a prepared gang anew, but a crash does.
func TestAge(t *testing.T) {
	s, x := with(t, node("a", 9, 9))
	s.Get(hold(1, pod("p", 2, 2)))
	s.Get(prepare(1, 1, 3))
	for range 3 {
		for _, m := range []api.Msg{hold(1, pod("p", 2, 2)), prepare(1, 1, 3)} {
			if got := s.Get(m); len(got) != 1 || !got[0].Yes {
				t.Errorf("P1002: %s is answered %s", message(m), messages(got))
			}
		}
		gets(t, s, from(3, to(api.MAsk, 1, false)), "")
		ticks(t, "a tick", s, "")
	}
	ticks(t, "tick 4", s, asked(1, 0, 3))
	gets(t, s, prepare(1, 1, 3), reply(api.MVote, 1, true))
	ticks(t, "tick 5", s, asked(1, 0, 3))
	s = shard.New(1, 0, x)
	idle(t, s, 3)
	ticks(t, "tick 4 behind New", s, asked(1, 0, 3))
}

// P1003: whom a prepared gang asks: the coordinator, then its Peers in their order, but itself.
func TestWhomItAsks(t *testing.T) {
	for bits := 1; bits < 16; bits++ {
		var peers []int
		for who := 1; who <= 4; who++ {
			if bits>>(who-1)&1 == 1 {
				peers = append(peers, who)
			}
		}
		for me := 1; me <= 4; me++ {
			x := tape.New()
			s := shard.New(me, 0, x)
			s.Node(node("a", 9, 9))
			s.Get(api.Msg{Kind: api.MHold, To: me, Gang: 7, Pods: []api.Pod{pod("p", 1, 1)}})
			s.Get(api.Msg{Kind: api.MPrepare, To: me, Gang: 7, Peers: peers})
			want := messages([]api.Msg{{Kind: api.MAsk, From: me, Gang: 7}})
			for _, who := range peers {
				if who != me {
					want += messages([]api.Msg{{Kind: api.MAsk, From: me, To: who, Gang: 7}})
				}
			}
			for _, again := range []*shard.Shard{s, shard.New(me, 0, x)} {
				idle(t, again, 3)
				for i := 4; i < 7; i++ {
					ticks(t, fmt.Sprintf("shard %d, peers %v, tick %d", me, peers, i), again, want)
				}
			}
		}
	}
}

// P1003: all gangs have their tick, by ids, whatever the order they came in, each by its own age; those that are decided have none.
func TestTickById(t *testing.T) {
	for range 20 {
		s, _ := with(t, node("a", 99, 99))
		for _, gang := range []int{10, 2, 999999, 1, 77, 9, 3} {
			s.Get(hold(gang, pod("p", 1, 1)))
		}
		s.Get(prepare(10, 1, 2))
		s.Get(prepare(1, 1, 4))
		s.Get(prepare(999999, 1))
		s.Get(prepare(3, 1, 2))
		s.Get(to(api.MDecide, 3, true))
		s.Get(from(2, to(api.MAsk, 4, false)))
		idle(t, s, 2)
		s.Get(prepare(77, 2, 3))
		s.Get(prepare(2, 1, 3))
		s.Get(to(api.MDecide, 2, false))
		ticks(t, "tick 3", s, "")
		ticks(t, "tick 4", s, asked(1, 0, 4)+asked(10, 0, 2)+asked(999999, 0))
		s.Get(to(api.MDecide, 10, true))
		ticks(t, "tick 5", s, asked(1, 0, 4)+asked(999999, 0))
		in(t, s, 9, api.Held)
		ticks(t, "tick 6", s, asked(1, 0, 4)+asked(77, 0, 2, 3)+asked(999999, 0))
		in(t, s, 9, api.Nothing)
		s.Get(to(api.MFree, 1, false))
		s.Get(from(3, to(api.MTell, 77, false)))
		ticks(t, "tick 7", s, asked(999999, 0))
		s.Get(from(3, to(api.MTell, 999999, true)))
		idle(t, s, 9)
		if got, want := sketch(s), "a:99,99 1=5() 2=4() 3=3(p>a:1,1) 4=4() 10=3(p>a:1,1) 77=4() 999999=3(p>a:1,1) a=3,3*3"; got != want {
			t.Errorf("P1003: there is\n%s, want\n%s", got, want)
		}
	}
}
