package post_test

import (
	"reflect"
	"slices"
	"testing"

	"joinery/api"
	"joinery/post"
)

// ask is a message that is known again by its gang.
func ask(gang int) api.Msg { return api.Msg{Kind: api.MAsk, From: 1, Gang: gang} }

// asks are messages of the gangs from one on, until another.
func asks(from, until int) []api.Msg {
	var l []api.Msg
	for gang := from; gang < until; gang++ {
		l = append(l, ask(gang))
	}
	return l
}

// of answers a post with messages of the gangs 0 to n-1.
func of(n int) *post.Post {
	p := post.New()
	p.Send(asks(0, n))
	return p
}

// upto are the numbers 0 to n-1.
func upto(n int) []int {
	var l []int
	for i := range n {
		l = append(l, i)
	}
	return l
}

// gangs are those of the messages that are there, in order, and nothing is there on either side of them.
func gangs(t *testing.T, p *post.Post) []int {
	t.Helper()
	var l []int
	for i := range p.Len() {
		m, there := p.At(i)
		if !there {
			t.Fatalf("P1201: of %d messages the one at %d is not there", p.Len(), i)
		}
		l = append(l, m.Gang)
	}
	for _, i := range []int{-1, p.Len()} {
		none(t, p, i)
	}
	return l
}

// none holds that there is no message at i.
func none(t *testing.T, p *post.Post, i int) {
	t.Helper()
	if m, there := p.At(i); there || !reflect.DeepEqual(m, api.Msg{}) {
		t.Fatalf("P1201, P4: of %d messages the one at %d is %v, %+v", p.Len(), i, there, m)
	}
}

// there holds which messages there are.
func there(t *testing.T, p *post.Post, want []int) {
	t.Helper()
	if got := gangs(t, p); !slices.Equal(got, want) {
		t.Fatalf("P1201: there are %v, want %v", got, want)
	}
}

// The document's example: Len of a new one: 0.
func TestExample(t *testing.T) {
	if n := post.New().Len(); n != 0 {
		t.Errorf("P1201: a new one has %d", n)
	}
}

// P1201: Send puts each behind all that are there, in order.
func TestSend(t *testing.T) {
	p := post.New()
	for _, l := range [][]api.Msg{nil, {}} {
		p.Send(l)
		there(t, p, nil)
	}
	p.Send(asks(5, 6))
	there(t, p, []int{5})
	p.Send([]api.Msg{ask(3), ask(9), ask(3)})
	there(t, p, []int{5, 3, 9, 3})
	p.Send(nil)
	p.Send([]api.Msg{})
	there(t, p, []int{5, 3, 9, 3})
	p.Send([]api.Msg{ask(1), {}})
	there(t, p, []int{5, 3, 9, 3, 1, 0})
}

// P1201: any message is put behind all, whatever it says.
func TestSendOfAny(t *testing.T) {
	p := post.New()
	var l []api.Msg
	for _, n := range []int{0, 1, 10, 11, -1, most, least} {
		l = append(l, api.Msg{Kind: n}, api.Msg{From: n}, api.Msg{To: n}, api.Msg{Gang: n}, api.Msg{Kind: n, From: n, To: n, Gang: n, Yes: true}, api.Msg{Peers: []int{n, 2, n}})
	}
	p.Send(l)
	for i, want := range l {
		if m, _ := p.At(i); !reflect.DeepEqual(m, want) {
			t.Errorf("P1201: at %d there is %+v, want %+v", i, m, want)
		}
	}
	if p.Len() != len(l) {
		t.Errorf("P1201: there are %d, want %d", p.Len(), len(l))
	}
}

// P1201: once 200 are there, no more, in however many calls they come.
func TestSendUntilFull(t *testing.T) {
	for _, n := range []int{199, 200, 201, 202, 399, 400, 401, 1000} {
		want := upto(min(n, 200))
		there(t, of(n), want)
		for _, parts := range []int{1, 2, 3, 7, 100, 199, 200, 201} {
			p := post.New()
			for from := 0; from < n; from += parts {
				p.Send(asks(from, min(from+parts, n)))
			}
			there(t, p, want)
		}
		for first := 198; first <= min(n, 201); first++ {
			p := of(first)
			p.Send(asks(first, n))
			there(t, p, want)
		}
	}
}

// P1201: where there is room again, as much is put in as there is room for.
func TestSendAgain(t *testing.T) {
	for gone := range 4 {
		for more := range 6 {
			p := of(205)
			for range gone {
				p.Take(100)
			}
			p.Send(asks(1000, 1000+more))
			want := slices.Delete(upto(200), 100, 100+gone)
			for i := range min(gone, more) {
				want = append(want, 1000+i)
			}
			there(t, p, want)
		}
	}
}

// places are numbers that are handed in for that of one of n messages, and others.
func places(n int) []int {
	return []int{0, 1, n / 2, n - 2, n - 1, n, n + 1, 2 * n, 199, 200, 201, 1 << 32, 1<<32 + 1, 1 << 40, most - 1, most, -1, -2, -n, -n - 1, -200, -1 << 32, least + 1, least}
}

// sizes are how many messages there may be.
var sizes = []int{0, 1, 2, 3, 4, 5, 100, 198, 199, 200}

// P1201: At tells the i-th, from 0 on, and changes nothing.
func TestAt(t *testing.T) {
	for _, n := range sizes {
		p := of(n)
		for _, i := range append(places(n), upto(n)...) {
			if i < 0 || i >= n {
				none(t, p, i)
			} else if m, is := p.At(i); !is || !reflect.DeepEqual(m, ask(i)) {
				t.Errorf("P1201: of %d the one at %d is %v, %+v", n, i, is, m)
			}
		}
		there(t, p, upto(n))
	}
}

// P1201: Take tells the i-th, and it is there no more; the others are, in their order.
func TestTake(t *testing.T) {
	for _, n := range sizes {
		for _, i := range append(places(n), upto(n)...) {
			p := of(n)
			m, is := p.Take(i)
			want := upto(n)
			if i < 0 || i >= n {
				if is || !reflect.DeepEqual(m, api.Msg{}) {
					t.Errorf("P1201, P4: of %d none is at %d: %v, %+v", n, i, is, m)
				}
			} else {
				if !is || !reflect.DeepEqual(m, ask(i)) {
					t.Errorf("P1201: of %d the one at %d is %v, %+v", n, i, is, m)
				}
				want = slices.Delete(want, i, i+1)
			}
			there(t, p, want)
		}
	}
}

// P1201: Take of one behind the other, from each side and from in between, until nothing is left.
func TestTakeAll(t *testing.T) {
	for _, n := range sizes {
		for _, which := range []func(left int) int{
			func(int) int { return 0 }, func(left int) int { return left - 1 }, func(left int) int { return left / 2 }, func(left int) int { return left * 2 / 3 },
		} {
			p, want := of(n), upto(n)
			for len(want) > 0 {
				i := which(len(want))
				if m, is := p.Take(i); !is || m.Gang != want[i] {
					t.Fatalf("P1201: of %d left the one at %d is %v, %d, want %d", len(want), i, is, m.Gang, want[i])
				}
				want = slices.Delete(want, i, i+1)
				there(t, p, want)
			}
			if m, is := p.Take(0); is || !reflect.DeepEqual(m, api.Msg{}) {
				t.Errorf("P1201: of none the first is %v, %+v", is, m)
			}
			p.Send(asks(7, 9))
			there(t, p, []int{7, 8})
		}
	}
}

// P1201: Copy puts the i-th behind all once more; false, and nothing is changed, where there is none, or 200 are there.
func TestCopy(t *testing.T) {
	for _, n := range sizes {
		for _, i := range append(places(n), upto(n)...) {
			p, want := of(n), upto(n)
			may := 0 <= i && i < n && n < 200
			if may {
				want = append(want, i)
			}
			if p.Copy(i) != may {
				t.Errorf("P1201: of %d Copy of the one at %d is %v", n, i, !may)
			}
			there(t, p, want)
		}
	}
}

// P1201: Copy again and again, of one and of its copies, until 200 are there; again, where there is room.
func TestCopyUntilFull(t *testing.T) {
	p, want := of(3), upto(3)
	for i := 0; len(want) < 200; i++ {
		if !p.Copy(i) {
			t.Fatalf("P1201: of %d the one at %d is not copied", len(want), i)
		}
		want = append(want, want[i])
	}
	for i := -1; i <= 201; i++ {
		if p.Copy(i) {
			t.Errorf("P1201: of 200 the one at %d is copied", i)
		}
	}
	p.Send(asks(9, 10))
	there(t, p, want)
	if m, is := p.Take(4); !is || m.Gang != want[4] {
		t.Errorf("P1201: of 200 the one at 4 is %v, %d", is, m.Gang)
	}
	want = slices.Delete(want, 4, 5)
	there(t, p, want)
	if !p.Copy(198) || p.Copy(198) {
		t.Error("P1201: there is room for one, so one is copied")
	}
	there(t, p, append(want, want[198]))
}

// P1201: a copy is one of its own: that either of the two is taken leaves the other one.
func TestCopyIsOneMore(t *testing.T) {
	for i := range 3 {
		p := of(3)
		p.Copy(i)
		if m, is := p.Take(i); !is || m.Gang != i {
			t.Errorf("P1201: %v, %d", is, m.Gang)
		}
		there(t, p, append(slices.Delete(upto(3), i, i+1), i))
		p = of(3)
		p.Copy(i)
		if m, is := p.Take(3); !is || m.Gang != i {
			t.Errorf("P1201: %v, %d", is, m.Gang)
		}
		there(t, p, upto(3))
	}
}

// whole are messages with all there is in them.
func whole() []api.Msg {
	return []api.Msg{
		{Kind: api.MHold, From: 0, To: 2, Gang: 7, Pods: []api.Pod{
			{Name: "p", Shard: 2, Need: api.Vec{Cpu: 1, Mem: 2}, Picks: []string{"a", "b"}, Bears: []string{"c"}, Alone: true},
			{Name: "q", Shard: 2, Need: api.Vec{Cpu: 3, Mem: 4}}, {Name: "r", Shard: 2, Bears: []string{"d", "e", "f", "g"}},
		}},
		{Kind: api.MPrepare, To: 1, Gang: 8, Peers: []int{1, 2, 4}},
		{Kind: api.MHeld, From: 3, Gang: 9, Yes: true},
		{Kind: 99, From: -1, To: 12, Gang: least, Yes: true, Peers: []int{5, 5, -1}, Pods: []api.Pod{
			{Name: "not a name", Shard: most, Need: api.Vec{Cpu: -1, Mem: least}, Picks: []string{"", "\xff", ""}},
			{}, {Picks: []string{"x"}, Bears: []string{"y"}, Alone: true},
		}},
	}
}

// P1201: messages come out whole: each field, each list in its order.
func TestWhole(t *testing.T) {
	p, want := post.New(), whole()
	p.Send(whole())
	for i := range want {
		p.Copy(i)
	}
	want = append(want, want...)
	for round := range 2 {
		for i, m := range want {
			if got, is := p.At(i); !is || !reflect.DeepEqual(got, m) {
				t.Errorf("P1201: round %d: at %d there is %v, %+v, want %+v", round, i, is, got, m)
			}
		}
	}
	for len(want) > 0 {
		i := len(want) * 2 / 3
		if got, is := p.Take(i); !is || !reflect.DeepEqual(got, want[i]) {
			t.Errorf("P1201: of %d there is %v, %+v, want %+v", len(want), is, got, want[i])
		}
		want = slices.Delete(want, i, i+1)
	}
}

// P1, P2: lists that are empty come out as none, or empty.
func TestEmptyLists(t *testing.T) {
	p := post.New()
	p.Send([]api.Msg{{Pods: []api.Pod{}, Peers: []int{}}, {Pods: []api.Pod{{Picks: []string{}, Bears: []string{}}}}})
	p.Copy(0)
	p.Copy(1)
	for i := range 4 {
		m, is := p.At(i)
		if !is || len(m.Peers) != 0 || len(m.Pods) != i%2 {
			t.Errorf("P2: at %d there is %v, %+v", i, is, m)
		}
		for _, pod := range m.Pods {
			if len(pod.Picks) != 0 || len(pod.Bears) != 0 {
				t.Errorf("P2: at %d there is %+v", i, m)
			}
		}
	}
}

// P1: a Post that nobody made by New has no messages, and may be used.
func TestZero(t *testing.T) {
	for _, first := range []func(p *post.Post) bool{
		func(p *post.Post) bool { return p.Len() == 0 },
		func(p *post.Post) bool { m, is := p.At(0); return !is && reflect.DeepEqual(m, api.Msg{}) },
		func(p *post.Post) bool { m, is := p.Take(0); return !is && reflect.DeepEqual(m, api.Msg{}) },
		func(p *post.Post) bool { return !p.Copy(0) },
		func(p *post.Post) bool { p.Send(nil); return p.Len() == 0 },
	} {
		var p post.Post
		if !first(&p) {
			t.Error("P1: a zero Post has messages")
		}
		p.Send(asks(1, 3))
		if !p.Copy(0) {
			t.Error("P1: nothing is copied")
		}
		there(t, &p, []int{1, 2, 1})
	}
}

// P1, P2: a great many messages, and a great one, end.
func TestMany(t *testing.T) {
	p := post.New()
	p.Send(asks(0, 1000000))
	there(t, p, upto(200))
	great := api.Msg{Peers: make([]int, 1000000), Pods: make([]api.Pod, 100000)}
	great.Peers[999999], great.Pods[99999].Name = 7, "p"
	p = post.New()
	p.Send([]api.Msg{great})
	if m, _ := p.Take(0); len(m.Peers) != 1000000 || m.Peers[999999] != 7 || len(m.Pods) != 100000 || m.Pods[99999].Name != "p" {
		t.Error("P1201: a great message is not whole")
	}
}
