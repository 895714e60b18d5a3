package tape_test

import (
	"fmt"
	"math"
	"reflect"
	"slices"
	"strings"
	"testing"

	"joinery/api"
	"joinery/line"
	"joinery/tape"
)

// fill writes over a list, its spare room too.
func fill[T any](l []T, with T) {
	l = l[:cap(l)]
	for i := range l {
		l[i] = with
	}
}

// scribble writes over the lists of r, their spare room too.
func scribble(r api.Record) {
	fill(r.Peers, -9)
	fill(r.Places, api.Place{Pod: "scribble", Node: "scribble", Need: of(9, 9), Alone: true})
	fill(r.Node.Marks, "scribble")
	fill(r.Node.Taints, "scribble")
}

// memory is what records are made of, so that many lists share it, each with spare room.
type memory struct {
	peers  []int
	places []api.Place
	marks  []string
}

func fresh() memory {
	m := memory{peers: []int{1, 2, 3, 4, 77}, marks: []string{"a", "b", "c", "d", "e", "f"}}
	for _, name := range []string{"p", "q", "r", "s"} {
		m.places = append(m.places, api.Place{Pod: name, Node: "n", Need: of(1, 2)})
	}
	return m
}

// roomy is records out of m; the lists of one share memory, too.
func (m memory) roomy() []api.Record {
	return []api.Record{
		{Kind: api.RNode, Node: api.Node{Name: "n", Marks: m.marks[0:2], Taints: m.marks[1:3]}},
		{Kind: api.RNode, Node: api.Node{Name: "n", Marks: m.marks[3:3], Taints: m.marks[1:3]}},
		{Kind: api.RGone, Node: api.Node{Name: "n", Marks: m.marks[0:0], Taints: m.marks[0:0]}, Peers: m.peers[:0], Places: m.places[:0]},
		{Kind: api.RPrepare, Gang: 1, Peers: m.peers[0:2], Places: m.places[0:2]},
		{Kind: api.RPrepare, Gang: 2, Peers: m.peers[1:3], Places: m.places[1:4]},
		{Kind: api.RGang, Gang: 3, Peers: m.peers[0:2], Places: m.places[1:1]},
		commit(4),
	}
}

// told is all that x tells, as a text.
func told(x *tape.Tape) string {
	return fmt.Sprintf("%+v\n%q\n%d", x.All(), x.Lines(), x.Lasting())
}

// steps are what befalls a tape from when a record is written till it is asked for.
var steps = map[string]func(x *tape.Tape){
	"nothing": func(x *tape.Tape) {},
	"Sync":    func(x *tape.Tape) { x.Sync() },
	"Crash":   func(x *tape.Tape) { x.Crash(most) },
	"more":    func(x *tape.Tape) { x.Sync(); x.Write(commit(9)); x.Crash(0) },
}

// P2: what is handed in is as it was, its spare room too.
func TestHandedInIsAsItWas(t *testing.T) {
	for name, step := range steps {
		m := fresh()
		x := tape.New()
		write(x, m.roomy()...)
		step(x)
		for _, r := range x.All() {
			scribble(r)
		}
		x.Lines()
		x.Crash(0)
		if !reflect.DeepEqual(m, fresh()) {
			t.Errorf("P2: behind %s what was handed in is %+v", name, m)
		}
	}
}

// P2: what was handed in is not kept: its lists may be changed at any time.
func TestNothingIsKept(t *testing.T) {
	for name, step := range steps {
		want := tape.New()
		write(want, fresh().roomy()...)
		step(want)
		for _, late := range []bool{false, true} {
			m := fresh()
			x := tape.New()
			write(x, m.roomy()...)
			if late {
				step(x)
			}
			fill(m.peers, -9)
			fill(m.places, api.Place{Pod: "scribble", Node: "b", Need: of(9, 9), Alone: true})
			fill(m.marks, "scribble")
			if !late {
				step(x)
			}
			if told(x) != told(want) {
				t.Errorf("P2: %s: what was handed in was written over, and the tape tells\n%s, want\n%s", name, told(x), told(want))
			}
		}
	}
}

// P2: what was told is not what is kept: it may be changed, its spare room too, and what is written then is told.
func TestNothingIsShared(t *testing.T) {
	for name, step := range steps {
		want, x := tape.New(), tape.New()
		for range 3 {
			write(want, fresh().roomy()...)
			step(want)
			write(x, fresh().roomy()...)
			step(x)
			for range 2 {
				l, all := x.Lines(), x.All()
				for _, r := range all {
					scribble(r)
				}
				fill(l, "scribble")
				fill(all, commit(999))
				if told(x) != told(want) {
					t.Fatalf("P2: %s: an answer was written over, and the tape tells\n%s, want\n%s", name, told(x), told(want))
				}
			}
		}
	}
}

// P2: an answer is its asker's: neither another answer nor a later call touches it.
func TestAnswersStay(t *testing.T) {
	for name, step := range steps {
		x := tape.New()
		write(x, fresh().roomy()...)
		step(x)
		all, l := x.All(), x.Lines()
		wantAll, wantLines := fmt.Sprintf("%+v", all), fmt.Sprintf("%q", l)
		for _, r := range x.All() {
			scribble(r)
		}
		fill(x.Lines(), "scribble")
		x.Crash(1)
		for i := range 20 {
			x.Write(commit(100 + i))
		}
		x.Sync()
		if got := fmt.Sprintf("%+v", all); got != wantAll {
			t.Errorf("P2: %s: an answer of All was %s, and is %s", name, wantAll, got)
		}
		if got := fmt.Sprintf("%q", l); got != wantLines {
			t.Errorf("P2: %s: an answer of Lines was %s, and is %s", name, wantLines, got)
		}
	}
}

// P2: no two lists of one answer share memory, spare room counted; nor do two answers.
func TestListsOfOneAnswer(t *testing.T) {
	x := tape.New()
	for range 2 {
		write(x, fresh().roomy()...)
	}
	each := []struct{ over, empty func(r *api.Record) }{
		{func(r *api.Record) { fill(r.Peers, -9) }, func(r *api.Record) { r.Peers = nil }},
		{func(r *api.Record) { fill(r.Places, api.Place{Pod: "scribble"}) }, func(r *api.Record) { r.Places = nil }},
		{func(r *api.Record) { fill(r.Node.Marks, "scribble") }, func(r *api.Record) { r.Node.Marks = nil }},
		{func(r *api.Record) { fill(r.Node.Taints, "scribble") }, func(r *api.Record) { r.Node.Taints = nil }},
	}
	for i := range x.All() {
		for which, list := range each {
			all, want, other := x.All(), x.All(), x.All()
			list.over(&all[i])
			list.empty(&all[i])
			list.empty(&want[i])
			if got := fmt.Sprintf("%+v", all); got != fmt.Sprintf("%+v", want) {
				t.Errorf("P2: list %d of record %d shares memory with another one: %s", which, i, got)
			}
			if !slices.EqualFunc(other, x.All(), same) {
				t.Errorf("P2: list %d of record %d shares memory with another answer", which, i)
			}
		}
	}
}

// P7: of two tapes each is as if it were alone.
func TestTwoTapes(t *testing.T) {
	one, other := tape.New(), tape.New()
	write(one, commits(1, 2)...)
	tells(t, "the other one", other, 0)
	other.Sync()
	tells(t, "the one", one, 0, commits(1, 2)...)
	one.Sync()
	write(other, commits(7, 8, 9)...)
	write(one, commits(3)...)
	tells(t, "the other one", other, 0, commits(7, 8, 9)...)
	other.Crash(1)
	tells(t, "the one", one, 2, commits(1, 2, 3)...)
	one.Crash(0)
	tells(t, "the one", one, 2, commits(1, 2)...)
	tells(t, "the other one", other, 1, commits(7)...)
	write(one, commits(4)...)
	write(other, commits(5)...)
	one.Sync()
	tells(t, "the one", one, 3, commits(1, 2, 4)...)
	tells(t, "the other one", other, 1, commits(7, 5)...)
}

// wrong are records that line.Check refuses.
func wrong() []api.Record {
	node := api.Node{Name: "n", Marks: []string{"a"}}
	place := api.Place{Pod: "p", Node: "n"}
	return []api.Record{
		{}, {Kind: -1, Gang: 1}, {Kind: 8, Gang: 1}, {Kind: least}, {Kind: most},
		{Kind: api.RNode}, {Kind: api.RNode, Node: node, Gang: 1}, {Kind: api.RNode, Node: api.Node{Name: "n", Cap: of(-1, 0)}}, {Kind: api.RNode, Node: api.Node{Name: "n", Marks: []string{"b", "a"}}},
		{Kind: api.RNode, Node: api.Node{Name: "n", Taints: make([]string, 50000)}}, {Kind: api.RNode, Node: api.Node{Name: "a\ncommit 1"}}, {Kind: api.RNode, Node: api.Node{Name: "\xff"}},
		{Kind: api.RGone}, {Kind: api.RGone, Node: api.Node{Name: "|"}}, {Kind: api.RGone, Node: api.Node{Name: strings.Repeat("a", 50000)}},
		{Kind: api.RCommit}, {Kind: api.RCommit, Gang: least}, {Kind: api.RAbort, Gang: 1000000}, {Kind: api.RRelease, Gang: math.MaxInt}, {Kind: api.RCommit, Gang: 1, Peers: []int{1}},
		{Kind: api.RGang, Gang: 1}, {Kind: api.RGang, Gang: 1, Peers: []int{2, 1}}, {Kind: api.RGang, Gang: 1, Peers: make([]int, 50000)}, {Kind: api.RGang, Gang: 1, Peers: []int{1}, Places: []api.Place{place}},
		{Kind: api.RPrepare, Gang: 1, Peers: []int{1}}, {Kind: api.RPrepare, Gang: 1, Peers: []int{1}, Places: make([]api.Place, 9)}, {Kind: api.RPrepare, Gang: 1, Peers: []int{1}, Places: []api.Place{place, place}},
		{Kind: api.RPrepare, Gang: 1, Places: []api.Place{place}}, {Kind: api.RPrepare, Gang: 1, Peers: []int{1}, Places: []api.Place{{Pod: "p", Node: "n", Need: of(least, most)}}},
	}
}

// P1, P2, P8: of a record that may not be this is promised, that the call ends, and that the record is neither changed nor kept. The tape takes none, so that all that it tells is read again.
func TestWhatMayNotBe(t *testing.T) {
	x := tape.New()
	write(x, commits(1)...)
	x.Sync()
	write(x, commits(2)...)
	for i, r := range wrong() {
		if line.Check(r) == api.OK {
			t.Fatalf("%+v is allowed", r)
		}
		x.Write(r)
		if !reflect.DeepEqual(r, wrong()[i]) {
			t.Errorf("P2: Write left %+v", r)
		}
		scribble(r)
		tells(t, fmt.Sprint("behind wrong record ", i), x, 1, commits(1, 2)...)
		x.Crash(0)
		tells(t, fmt.Sprint("crashed behind wrong record ", i), x, 1, commit(1))
		x.Write(commit(2))
	}
	x.Sync()
	tells(t, "behind all wrong records", x, 2, commits(1, 2)...)
}
