package post_test

import (
	"fmt"
	"reflect"
	"strings"
	"testing"

	"joinery/api"
	"joinery/post"
)

// fill writes over a list, its spare room too.
func fill[T any](l []T, with T) {
	l = l[:cap(l)]
	for i := range l {
		l[i] = with
	}
}

// memory is what is handed in is made of, so that many lists share it, each with spare room.
type memory struct {
	peers []int
	marks []string
	pods  []api.Pod
	all   []api.Msg
}

func fresh() *memory {
	m := &memory{peers: []int{1, 2, 3, 4, 77}, marks: []string{"a", "b", "c", "d", "e", "f"}}
	m.pods = []api.Pod{
		{Name: "p", Shard: 1, Picks: m.marks[0:1], Bears: m.marks[3:5]}, {Name: "q", Shard: 2, Bears: m.marks[3:4], Alone: true},
		{Name: "r", Shard: 1, Picks: m.marks[2:2], Bears: m.marks[2:5]}, {Name: "s", Shard: 2}, {Name: "t", Shard: 4, Picks: m.marks[1:5]},
	}
	m.all = []api.Msg{
		{Kind: api.MHold, To: 1, Gang: 1, Pods: m.pods[0:2]}, {Kind: api.MHold, To: 2, Gang: 1, Pods: m.pods[1:4], Peers: m.peers[0:1]},
		{Kind: api.MPrepare, To: 1, Gang: 2, Peers: m.peers[1:3]}, {Kind: api.MTell, From: 1, Gang: 3, Peers: m.peers[2:2], Pods: m.pods[4:4], Yes: true},
		{Kind: 12, Gang: 4, Pods: m.pods[:], Peers: m.peers[:]}, {Kind: api.MAsk, Gang: 5},
	}
	return m
}

// scribble writes over all of it.
func (m *memory) scribble() {
	fill(m.peers, 3)
	fill(m.marks, "scribble")
	fill(m.pods, api.Pod{Name: "scribble", Shard: 3})
	fill(m.all, api.Msg{Kind: 99, Gang: 99})
}

// over writes over all lists of a message that was told.
func over(m api.Msg) {
	for _, p := range m.Pods {
		fill(p.Picks, "scribble")
		fill(p.Bears, "scribble")
	}
	fill(m.Pods, api.Pod{Name: "scribble", Shard: 3})
	fill(m.Peers, 3)
}

// told is all that p tells.
func told(p *post.Post) string {
	var b strings.Builder
	for i := range p.Len() {
		m, is := p.At(i)
		fmt.Fprintf(&b, "%d: %v %+v\n", i, is, m)
	}
	return b.String()
}

// steps are calls of which some hand in what m has; what they tell is answered.
func (m *memory) steps() []func(p *post.Post) api.Msg {
	send := func(from, until int) func(p *post.Post) api.Msg {
		return func(p *post.Post) api.Msg { p.Send(m.all[from:until]); return api.Msg{} }
	}
	at := func(i int) func(p *post.Post) api.Msg {
		return func(p *post.Post) api.Msg { x, _ := p.At(i); return x }
	}
	take := func(i int) func(p *post.Post) api.Msg {
		return func(p *post.Post) api.Msg { x, _ := p.Take(i); return x }
	}
	again := func(i int) func(p *post.Post) api.Msg {
		return func(p *post.Post) api.Msg { p.Copy(i); return api.Msg{} }
	}
	return []func(p *post.Post) api.Msg{
		send(0, 2), at(0), send(1, 4), again(0), at(0), at(5), send(4, 4), take(1), again(2), at(2), send(3, 6), take(2), again(4), at(7), again(7), take(7), at(7), again(0), take(0), send(0, 6), at(8), again(8), take(8),
	}
}

// P2: what is handed in is as it was, its spare room too.
func TestHandedInIsAsItWas(t *testing.T) {
	m, p := fresh(), post.New()
	for i, step := range m.steps() {
		over(step(p))
		if !reflect.DeepEqual(m, fresh()) {
			t.Fatalf("P2: behind step %d what was handed in is %+v", i, m)
		}
	}
}

// P2: what was handed in is not kept: its lists may be changed at any time.
func TestNothingIsKept(t *testing.T) {
	want, got := post.New(), post.New()
	for i := range fresh().steps() {
		m := fresh()
		a, b := fmt.Sprintf("%+v", m.steps()[i](got)), fmt.Sprintf("%+v", fresh().steps()[i](want))
		m.scribble()
		if a != b || told(got) != told(want) {
			t.Fatalf("P2: of %d steps what each handed in was written over: told %s, want %s; there is\n%s, want\n%s", i+1, a, b, told(got), told(want))
		}
	}
}

// P2: what was told is not what is there: it may be changed, its spare room too.
func TestNothingIsShared(t *testing.T) {
	want, got := post.New(), post.New()
	for i := range fresh().steps() {
		a, b := fresh().steps()[i](got), fresh().steps()[i](want)
		if x, y := fmt.Sprintf("%+v", a), fmt.Sprintf("%+v", b); x != y {
			t.Fatalf("P2: ahead of step %d answers were written over: told %s, want %s", i, x, y)
		}
		over(a)
		for j := range got.Len() {
			m, _ := got.At(j)
			over(m)
		}
		if told(got) != told(want) {
			t.Fatalf("P2: behind step %d answers were written over: there is\n%s, want\n%s", i, told(got), told(want))
		}
	}
}

// P2: of a message and its copy each is told in memory of its own, whichever is there yet.
func TestCopySharesNothing(t *testing.T) {
	for i, want := range whole() {
		for _, first := range []int{i, len(whole())} {
			p := post.New()
			p.Send(whole())
			p.Copy(i)
			one, _ := p.Take(first)
			over(one)
			other, _ := p.At(len(whole()) - 1)
			if first == len(whole()) {
				other, _ = p.At(i)
			}
			if !reflect.DeepEqual(other, want) {
				t.Errorf("P2: of two that are one the other is %+v, want %+v", other, want)
			}
		}
	}
}

// list is one of an answer's lists: how it is written over, and what it has, its spare room too.
type list struct {
	write func()
	tell  func() string
}

// lists are all of m's.
func lists(m api.Msg) []list {
	names := func() string {
		s := ""
		for _, p := range m.Pods[:cap(m.Pods)] {
			s += p.Name + " "
		}
		return s
	}
	l := []list{{func() { fill(m.Peers, 77) }, func() string { return fmt.Sprint(m.Peers[:cap(m.Peers)]) }}, {func() { fill(m.Pods, api.Pod{Name: "scribble"}) }, names}}
	for _, p := range m.Pods {
		for _, marks := range [][]string{p.Picks, p.Bears} {
			l = append(l, list{func() { fill(marks, "scribble") }, func() string { return fmt.Sprint(marks[:cap(marks)]) }})
		}
	}
	return l
}

// P2: no two lists of one answer share any memory, not in their spare room either, though those that were handed in did.
func TestListsOfAnAnswer(t *testing.T) {
	for _, tell := range []func(p *post.Post, i int) (api.Msg, bool){(*post.Post).At, (*post.Post).Take} {
		for i := range fresh().all {
			p := post.New()
			p.Send(fresh().all)
			m, _ := p.At(i)
			for which := range lists(m) {
				p := post.New()
				p.Send(fresh().all)
				m, _ := tell(p, i)
				all := lists(m)
				var was []string
				for _, l := range all {
					was = append(was, l.tell())
				}
				all[which].write()
				for j, l := range all {
					if j != which && l.tell() != was[j] {
						t.Errorf("P2: of the message at %d list %d was written over, and list %d is %s, was %s", i, which, j, l.tell(), was[j])
					}
				}
			}
		}
	}
}

// P3: the same calls in the same order answer the same.
func TestTheSameAgain(t *testing.T) {
	run := func() string {
		var b strings.Builder
		m, p := fresh(), post.New()
		for _, step := range m.steps() {
			fmt.Fprintf(&b, "%+v\n%s", step(p), told(p))
		}
		return b.String()
	}
	if a, b := run(), run(); a != b {
		t.Errorf("P3: once\n%s, then\n%s", a, b)
	}
}

// P7: two posts, side by side, do not touch one another, though what is told by one is sent to the other.
func TestSideBySide(t *testing.T) {
	p, q := post.New(), post.New()
	p.Send(asks(0, 3))
	there(t, q, nil)
	q.Send(asks(10, 14))
	there(t, p, upto(3))
	m, _ := p.Take(1)
	q.Send([]api.Msg{m})
	there(t, p, []int{0, 2})
	there(t, q, []int{10, 11, 12, 13, 1})
	q.Copy(0)
	p.Copy(1)
	there(t, p, []int{0, 2, 2})
	there(t, q, []int{10, 11, 12, 13, 1, 10})
	p.Send(asks(100, 400))
	if p.Len() != 200 || q.Len() != 6 || !q.Copy(5) || p.Copy(0) {
		t.Errorf("P7: one has %d, the other one %d", p.Len(), q.Len())
	}
	there(t, q, []int{10, 11, 12, 13, 1, 10, 10})
}

// P2, P7: a message that goes from one post to another is not shared by the two.
func TestFromOneToAnother(t *testing.T) {
	p, q := post.New(), post.New()
	p.Send(whole())
	for i := range whole() {
		m, _ := p.At(i)
		q.Send([]api.Msg{m})
		over(m)
	}
	for i, want := range whole() {
		for _, x := range []*post.Post{p, q} {
			if m, is := x.At(i); !is || !reflect.DeepEqual(m, want) {
				t.Errorf("P7: at %d there is %v, %+v, want %+v", i, is, m, want)
			}
		}
	}
}
