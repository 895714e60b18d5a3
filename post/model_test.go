package post_test

import (
	"fmt"
	"math/rand/v2"
	"reflect"
	"slices"
	"strings"
	"testing"

	"joinery/api"
	"joinery/post"
)

// model is a post as a plain list.
type model []api.Msg

func (m *model) Send(l []api.Msg) {
	room := min(200-len(*m), len(l))
	*m = append(slices.Clone(*m), l[:room]...)
}

func (m *model) At(i int) (api.Msg, bool) {
	if i < 0 || i >= len(*m) {
		return api.Msg{}, false
	}
	return (*m)[i], true
}

func (m *model) Take(i int) (api.Msg, bool) {
	x, is := m.At(i)
	if is {
		*m = append(slices.Clone((*m)[:i]), (*m)[i+1:]...)
	}
	return x, is
}

func (m *model) Copy(i int) bool {
	x, is := m.At(i)
	if !is || len(*m) == 200 {
		return false
	}
	m.Send([]api.Msg{x})
	return true
}

// pair is a post beside its model, and the last calls.
type pair struct {
	p     *post.Post
	m     model
	calls []string
}

func (x *pair) did(call string, args ...any) {
	x.calls = append(x.calls, fmt.Sprintf(call, args...))
	if len(x.calls) > 12 {
		x.calls = x.calls[1:]
	}
}

// fault ends the test.
func (x *pair) fault(t *testing.T, got, want any) {
	t.Helper()
	t.Fatalf("P1201: behind\n%s\n%+v, want %+v", strings.Join(x.calls, "\n"), got, want)
}

// send, at, take, double do a call of both, and hold the answers against each other.
func (x *pair) send(t *testing.T, l []api.Msg) {
	x.did("send of %d", len(l))
	x.p.Send(l)
	x.m.Send(l)
	x.same(t)
}

func (x *pair) at(t *testing.T, i int) bool {
	x.did("at %d", i)
	a, is := x.p.At(i)
	b, want := x.m.At(i)
	if is != want || !reflect.DeepEqual(a, b) {
		x.fault(t, a, b)
	}
	return is
}

func (x *pair) take(t *testing.T, i int) bool {
	x.did("take %d", i)
	a, is := x.p.Take(i)
	b, want := x.m.Take(i)
	if is != want || !reflect.DeepEqual(a, b) {
		x.fault(t, a, b)
	}
	x.same(t)
	return is
}

func (x *pair) double(t *testing.T, i int) bool {
	x.did("copy %d", i)
	is, want := x.p.Copy(i), x.m.Copy(i)
	if is != want {
		x.fault(t, is, want)
	}
	x.same(t)
	return is
}

// same holds all that is there against the model, and that nothing is on either side of it.
func (x *pair) same(t *testing.T) {
	if x.p.Len() != len(x.m) {
		x.fault(t, x.p.Len(), len(x.m))
	}
	for i := -1; i <= len(x.m); i++ {
		a, is := x.p.At(i)
		b, want := x.m.At(i)
		if is != want || !reflect.DeepEqual(a, b) {
			x.fault(t, a, b)
		}
	}
}

// P1201: each row of a few calls, behind none, a few, and as many as leave room for two.
func TestEachRow(t *testing.T) {
	gang := 0
	next := func(n int) []api.Msg {
		gang += n
		return asks(gang-n, gang)
	}
	var calls []func(x *pair)
	for n := range 3 {
		calls = append(calls, func(x *pair) { x.send(t, next(n)) })
	}
	for i := -1; i <= 3; i++ {
		calls = append(calls, func(x *pair) { x.take(t, i) }, func(x *pair) { x.double(t, i) })
	}
	for _, c := range []struct{ first, long int }{{0, 4}, {2, 4}, {198, 3}, {199, 2}} {
		rows := 1
		for range c.long {
			rows *= len(calls)
		}
		for row := range rows {
			x := &pair{p: post.New()}
			x.send(t, asks(1000, 1000+c.first))
			for left := row; len(x.calls) <= c.long; left /= len(calls) {
				calls[left%len(calls)](x)
			}
		}
	}
}

// some is a message as it comes.
func some(r *rand.Rand) api.Msg {
	m := api.Msg{Kind: r.IntN(13) - 1, From: r.IntN(7) - 1, To: r.IntN(7) - 1, Gang: r.IntN(1000), Yes: r.IntN(2) == 0}
	for range r.IntN(3) {
		pod := api.Pod{Name: string(rune('a' + r.IntN(26))), Shard: r.IntN(5), Need: api.Vec{Cpu: r.IntN(9), Mem: r.IntN(9)}, Alone: r.IntN(2) == 0}
		for range r.IntN(3) {
			pod.Picks = append(pod.Picks, string(rune('a'+r.IntN(26))))
		}
		for range r.IntN(3) {
			pod.Bears = append(pod.Bears, string(rune('a'+r.IntN(26))))
		}
		m.Pods = append(m.Pods, pod)
	}
	for range r.IntN(3) {
		m.Peers = append(m.Peers, r.IntN(5))
	}
	return m
}

// P1201: long rows of calls, of two posts side by side (P7), of which each comes to be full and to be empty often.
func TestLongRows(t *testing.T) {
	count := map[string]int{}
	for seed := range uint64(30) {
		r := rand.New(rand.NewPCG(seed, 12))
		pairs := []*pair{{p: post.New()}, {p: post.New()}}
		lean := 0
		for step := range 600 {
			x := pairs[r.IntN(2)]
			if step%100 == 0 {
				lean = r.IntN(3)
			}
			n := len(x.m)
			i := r.IntN(n+3) - 1
			switch k := r.IntN(10); {
			case k < 2:
				var l []api.Msg
				for range r.IntN(1 + []int{3, 30, 2}[lean]) {
					l = append(l, some(r))
				}
				x.send(t, l)
				tally(count, "send", n+len(l) <= 200)
			case k < 4:
				tally(count, "at", x.at(t, i))
			case k < 6 || k < 9 && lean == 2:
				tally(count, "take", x.take(t, i))
			default:
				is := x.double(t, i)
				tally(count, "copy", is)
				if !is && 0 <= i && i < n {
					count["copy at full"]++
				}
			}
			if len(x.m) == 0 {
				count["empty"]++
			}
		}
		for _, x := range pairs {
			x.same(t)
		}
	}
	for _, what := range []string{"send", "send no", "at", "at no", "take", "take no", "copy", "copy no", "copy at full", "empty"} {
		if count[what] < 50 {
			t.Errorf("%s came up %d times only: %v", what, count[what], count)
		}
	}
}

// tally counts whether it came to pass.
func tally(count map[string]int, what string, is bool) {
	if !is {
		what += " no"
	}
	count[what]++
}
