package pack_test

import (
	"fmt"
	"math"
	"slices"
	"strings"
	"testing"

	"joinery/api"
	"joinery/ledger"
	"joinery/pack"
)

const (
	most  = math.MaxInt64
	least = math.MinInt64
)

// The modes, by the numbers of P602; noMode is any other one.
const (
	mostLeft   = 0
	leastLeft  = 1
	fewestPods = 2
	noMode     = 3
)

// names are those of nodes that the tests put, and some that they do not.
var names = []string{"a", "b", "c", "d", "e", "f", "g", "h", "i", "α", "ω", "none", "", "N", "\xff"}

// gangs are those that the tests place, and some that they do not.
var gangs = []int{1, 2, 3, 4, 5, 6, 7, 8, 0, -1, 999999, 1000000, most, least}

func of(cpu, mem int) api.Vec { return api.Vec{Cpu: cpu, Mem: mem} }

func node(name string, cpu, mem int) api.Node { return api.Node{Name: name, Cap: of(cpu, mem)} }

func closed(n api.Node) api.Node {
	n.Closed = true
	return n
}

func marked(n api.Node, marks ...string) api.Node {
	n.Marks = marks
	return n
}

func tainted(n api.Node, taints ...string) api.Node {
	n.Taints = taints
	return n
}

func pod(name string, cpu, mem int) api.Pod {
	return api.Pod{Name: name, Shard: 1, Need: of(cpu, mem)}
}

func alone(p api.Pod) api.Pod {
	p.Alone = true
	return p
}

func picks(p api.Pod, marks ...string) api.Pod {
	p.Picks = marks
	return p
}

func bears(p api.Pod, taints ...string) api.Pod {
	p.Bears = taints
	return p
}

// told is all that l tells, as a text.
func told(l *ledger.Ledger) string {
	var b strings.Builder
	fmt.Fprintf(&b, "%+v\n", l.Nodes())
	for _, name := range names {
		v, pods := l.Used(name)
		fmt.Fprintf(&b, "%q %v %d\n", name, v, pods)
	}
	for _, gang := range gangs {
		fmt.Fprintf(&b, "%d %+v\n", gang, l.Places(gang))
	}
	return b.String()
}

// short tells places as pod>node, parted by blanks.
func short(p []api.Place) string {
	var l []string
	for _, q := range p {
		l = append(l, q.Pod+">"+q.Node)
	}
	return strings.Join(l, " ")
}

// filled is a ledger of these nodes.
func filled(t *testing.T, nodes ...api.Node) *ledger.Ledger {
	t.Helper()
	l := ledger.New()
	for _, n := range nodes {
		if err := l.Put(n); err != api.OK {
			t.Fatalf("P701: Put(%+v): %v", n, err)
		}
	}
	return l
}

// take has another gang take a place, past Pack.
func take(t *testing.T, l *ledger.Ledger, gang int, node string, cpu, mem int) {
	t.Helper()
	p := api.Place{Pod: "o", Node: node, Need: of(cpu, mem), Alone: true}
	if err := l.Take(gang, []api.Place{p}); err != api.OK {
		t.Fatalf("P702: Take(%d, %+v): %v", gang, p, err)
	}
}

func give(t *testing.T, l *ledger.Ledger, gang int) {
	t.Helper()
	if err := l.Give(gang); err != api.OK {
		t.Fatalf("P702: Give(%d): %v", gang, err)
	}
}

// taken asks for what the ledger must have beyond before, after gang got these places: them, their room, and nothing else.
func taken(t *testing.T, l, before *ledger.Ledger, gang int, p []api.Place) {
	t.Helper()
	if err := before.Take(gang, p); err != api.OK {
		t.Errorf("P801: %s do not go: %v", short(p), err)
	}
	if got, want := told(l), told(before); got != want {
		t.Errorf("P801: gang %d got %s, and the ledger tells\n%s, want\n%s", gang, short(p), got, want)
	}
}

// twin is a ledger that tells the same as l.
func twin(t *testing.T, l *ledger.Ledger) *ledger.Ledger {
	t.Helper()
	other := filled(t, l.Nodes()...)
	for _, gang := range gangs {
		if p := l.Places(gang); len(p) > 0 {
			other.Take(gang, p)
		}
	}
	if told(other) != told(l) {
		t.Fatalf("a ledger tells what another one can't be made of: %s", told(l))
	}
	return other
}

// packed asks for a gang that goes, by pod>node: the places have what the pods have, in order, and the ledger has them.
func packed(t *testing.T, l *ledger.Ledger, gang, mode int, want string, pods ...api.Pod) {
	t.Helper()
	before := twin(t, l)
	got, err := pack.Pack(l, gang, pods, mode)
	if err != api.OK || short(got) != want {
		t.Errorf("P801: Pack(%d, %+v, %d) = %s, %v, want %s", gang, pods, mode, short(got), err, want)
		return
	}
	for i, p := range pods {
		if q := (api.Place{Pod: p.Name, Node: got[i].Node, Need: p.Need, Alone: p.Alone}); got[i] != q {
			t.Errorf("P801: place %d is %+v, want %+v", i, got[i], q)
		}
	}
	taken(t, l, before, gang, got)
	if p := l.Places(gang); !slices.Equal(p, got) {
		t.Errorf("P801: Places(%d) = %+v, want %+v", gang, p, got)
	}
}

// refused asks for an error, no places beside it (P4), and that nothing has changed (P5); twice, since the same calls answer the same (P3).
func refused(t *testing.T, l *ledger.Ledger, gang, mode int, want api.Errno, pods ...api.Pod) {
	t.Helper()
	before := told(l)
	for range 2 {
		got, err := pack.Pack(l, gang, pods, mode)
		if err != want || len(got) > 0 {
			t.Errorf("P801: Pack(%d, %+v, %d) = %+v, %v, want %v", gang, pods, mode, got, err, want)
		}
		if after := told(l); after != before {
			t.Errorf("P5: Pack(%d, %+v, %d) changed the ledger from\n%sto\n%s", gang, pods, mode, before, after)
		}
	}
}

// stays asks for one pod that goes to that node, or nowhere ("").
func stays(t *testing.T, l *ledger.Ledger, p api.Pod, want string) {
	t.Helper()
	for _, mode := range []int{mostLeft, leastLeft, fewestPods, noMode} {
		if want == "" {
			refused(t, l, 1, mode, api.ErrRoom, p)
			continue
		}
		packed(t, l, 1, mode, p.Name+">"+want, p)
		give(t, l, 1)
	}
}

// The document's example.
func TestWithoutNodes(t *testing.T) {
	for _, l := range []*ledger.Ledger{ledger.New(), {}} {
		stays(t, l, pod("p", 0, 0), "")
		stays(t, l, alone(pod("p", 1, 1)), "")
	}
	l := filled(t, node("a", 1, 1))
	stays(t, l, pod("p", 0, 0), "a")
	l.Gone("a")
	stays(t, l, pod("p", 0, 0), "")
}

func TestOrdinary(t *testing.T) {
	l := filled(t, node("a", 10, 10), node("b", 20, 20), marked(node("c", 20, 40), "ssd"), tainted(node("d", 80, 80), "hot"))
	packed(t, l, 1, mostLeft, "p>c q>c r>b", pod("p", 4, 4), picks(pod("q", 6, 4), "ssd"), pod("r", 1, 1))
	packed(t, l, 2, leastLeft, "p>c q>c r>d", pod("p", 5, 5), pod("q", 5, 5), bears(pod("r", 21, 0), "hot"))
	packed(t, l, 3, fewestPods, "p>a q>b r>c", alone(pod("p", 1, 1)), alone(pod("q", 1, 1)), pod("r", 0, 1))
	give(t, l, 1)
	packed(t, l, 1, fewestPods, "p>a q>b", pod("p", 0, 0), pod("q", 0, 0))
}

// Any number is a gang, and any number a mode; the shard of a pod, and where else its name is, do not count.
func TestAnyGang(t *testing.T) {
	l := filled(t, node("a", 100, 100))
	for i, gang := range gangs {
		p := pod("p", 1, 2)
		p.Shard = 1 + i%api.MaxShards
		packed(t, l, gang, i-3, "p>a a>a", p, pod("a", 0, 1))
	}
	if v, pods := l.Used("a"); v != of(len(gangs), 3*len(gangs)) || pods != 2*len(gangs) {
		t.Errorf("P801: %v, %d are used", v, pods)
	}
}

// P6: that a gang has places goes ahead of every other error.
func TestTwice(t *testing.T) {
	l := filled(t, node("a", 10, 10), node("b", 10, 10))
	packed(t, l, 7, mostLeft, "p>a q>b", pod("p", 1, 2), pod("q", 3, 4))
	take(t, l, 8, "b", 0, 0)
	for _, gang := range []int{7, 8} {
		for _, mode := range []int{mostLeft, leastLeft, fewestPods, noMode} {
			refused(t, l, gang, mode, api.ErrTwice)
			refused(t, l, gang, mode, api.ErrTwice, pod("p", 1, 2), pod("q", 3, 4))
			refused(t, l, gang, mode, api.ErrTwice, pod("r", 0, 0))
			refused(t, l, gang, mode, api.ErrTwice, pod("r", 11, 11))
			refused(t, l, gang, mode, api.ErrTwice, picks(pod("r", 0, 0), "x"))
		}
	}
	packed(t, l, 1, mostLeft, "p>a", pod("p", 1, 2)) // one that has none goes
	l.Put(closed(node("a", 10, 10)))
	refused(t, l, 7, mostLeft, api.ErrTwice, pod("r", 0, 0))
	give(t, l, 7)
	packed(t, l, 7, mostLeft, "r>b", pod("r", 1, 1))
	refused(t, l, 7, mostLeft, api.ErrTwice)
}

// A gang without pods is too short ahead of there being no room.
func TestNoPods(t *testing.T) {
	for _, l := range []*ledger.Ledger{ledger.New(), filled(t, node("a", 10, 10)), filled(t, closed(node("a", 0, 0)))} {
		for _, gang := range gangs {
			refused(t, l, gang, gang, api.ErrLong)
			refused(t, l, gang, gang, api.ErrLong, []api.Pod{}...)
			refused(t, l, gang, gang, api.ErrLong, []api.Pod{pod("spare", 1, 1)}[:0]...)
		}
	}
}

// some is so many pods that go anywhere.
func some(n int) []api.Pod {
	var l []api.Pod
	for i := range n {
		l = append(l, pod(string(rune('p'+i)), 1, 1))
	}
	return l
}

// Eight pods are as many as there may be. More of them may not be: they are refused, too.
func TestHowManyPods(t *testing.T) {
	for n := 1; n <= api.MaxPods; n++ {
		l := filled(t, node("a", n, n))
		packed(t, l, 1, mostLeft, "p>a q>a r>a s>a t>a u>a v>a w>a"[:4*n-1], some(n)...)
		l = filled(t, node("a", n-1, n), node("b", 0, n))
		refused(t, l, 1, mostLeft, api.ErrRoom, some(n)...)
	}
	refused(t, filled(t, node("a", 100, 100)), 1, mostLeft, api.ErrLong, some(9)...)
	refused(t, filled(t, node("a", 100, 100)), 1, mostLeft, api.ErrLong, make([]api.Pod, 1<<20)...)
	l := filled(t, node("a", 100, 100))
	packed(t, l, 1, mostLeft, "p>a", some(1)...)
	refused(t, l, 1, mostLeft, api.ErrTwice, some(9)...)
}

// One pod that may stand nowhere is enough, ahead of, between and behind others that may: none of them has anything then.
func TestOneThatMayStandNowhere(t *testing.T) {
	begin := func() *ledger.Ledger {
		l := filled(t, marked(node("a", 100, 100), "ssd"), marked(node("b", 100, 100), "gpu"), closed(marked(node("c", 100, 100), "gpu", "ssd")), tainted(node("d", 200, 200), "hot"))
		take(t, l, 5, "a", 1, 1)
		return l
	}
	for _, bad := range []api.Pod{
		pod("z", 101, 0), pod("z", 0, 101), pod("z", api.Most, api.Most), picks(pod("z", 0, 0), "gpu", "ssd"), picks(pod("z", 0, 0), "x"),
		bears(pod("z", 201, 0), "hot"), bears(picks(pod("z", 0, 0), "x"), "hot"), bears(pod("z", 150, 0), "hut"),
	} {
		for n := range api.MaxPods {
			good := some(n)
			for at := range n + 1 {
				for _, mode := range []int{mostLeft, leastLeft, fewestPods, noMode} {
					refused(t, begin(), 1, mode, api.ErrRoom, slices.Insert(slices.Clone(good), at, bad)...)
				}
			}
			if n > 0 {
				if _, err := pack.Pack(begin(), 1, good, mostLeft); err != api.OK {
					t.Errorf("P801: without %+v: %v", bad, err)
				}
			}
		}
	}
}

// After a gang was refused at its last pod, its room is there for another one.
func TestRefusedTakesNothing(t *testing.T) {
	l := filled(t, node("a", 4, 4), node("b", 4, 4))
	refused(t, l, 1, mostLeft, api.ErrRoom, pod("p", 4, 4), pod("q", 4, 4), pod("r", 0, 1))
	refused(t, l, 1, mostLeft, api.ErrRoom, pod("p", 4, 4), alone(pod("q", 0, 0)), alone(pod("r", 0, 0)))
	packed(t, l, 2, mostLeft, "p>a q>b", alone(pod("p", 4, 4)), alone(pod("q", 4, 4)))
	refused(t, l, 1, mostLeft, api.ErrRoom, pod("p", 0, 1))
	packed(t, l, 1, mostLeft, "p>a q>b", alone(pod("p", 0, 0)), alone(pod("q", 0, 0)))
}

// No pod moves on for a later one: where another choice of the first one would do, the gang is refused all the same.
func TestNoLookAhead(t *testing.T) {
	l := filled(t, node("a", 10, 10), node("b", 6, 6))
	refused(t, l, 1, mostLeft, api.ErrRoom, pod("p", 6, 6), pod("q", 10, 10))
	packed(t, l, 1, leastLeft, "p>b q>a", pod("p", 6, 6), pod("q", 10, 10))
	give(t, l, 1)
	packed(t, l, 1, mostLeft, "q>a p>b", pod("q", 10, 10), pod("p", 6, 6))
}

// Each pod is told what those of its gang ahead of it have taken: of the room, for whether it fits and for its score, of what is beside, and of how many stand there.
func TestOneBehindTheOther(t *testing.T) {
	two := []api.Node{node("a", 10, 10), node("b", 10, 10)}
	for _, x := range []struct {
		what  string
		nodes []api.Node
		mode  int
		want  string
		pods  []api.Pod
	}{
		{"room", two, noMode, "p>a q>b r>a s>b", []api.Pod{pod("p", 6, 0), pod("q", 5, 0), pod("r", 4, 0), pod("s", 5, 0)}},
		{"room", two, noMode, "p>a q>b r>a s>b", []api.Pod{pod("p", 0, 6), pod("q", 0, 5), pod("r", 0, 4), pod("s", 0, 5)}},
		{"room", two, leastLeft, "p>a q>a r>b", []api.Pod{pod("p", 5, 5), pod("q", 5, 5), pod("r", 1, 0)}},
		{"room of several", two, noMode, "p>a q>a r>a s>a t>b", []api.Pod{pod("p", 3, 1), pod("q", 3, 1), pod("r", 3, 1), pod("s", 1, 1), pod("t", 1, 1)}},
		{"most left", two, mostLeft, "p>a q>b r>a s>b", []api.Pod{pod("p", 1, 1), pod("q", 2, 2), pod("r", 3, 3), pod("s", 1, 1)}},
		{"most left", two, mostLeft, "p>a q>b r>b s>b t>a", []api.Pod{pod("p", 4, 0), pod("q", 1, 0), pod("r", 1, 0), pod("s", 2, 0), pod("t", 0, 0)}},
		{"most left", two, mostLeft, "p>a q>b r>b", []api.Pod{pod("p", 0, 2), pod("q", 0, 1), pod("r", 0, 2)}},
		{"least left", two, leastLeft, "p>a q>a r>b s>b t>a", []api.Pod{pod("p", 3, 3), pod("q", 1, 1), pod("r", 7, 7), pod("s", 3, 3), pod("t", 6, 6)}},
		{"fewest", two, fewestPods, "p>a q>b r>a s>b t>a", []api.Pod{pod("p", 0, 0), pod("q", 9, 9), pod("r", 0, 0), pod("s", 1, 1), pod("t", 0, 0)}},
		{"fewest", two, fewestPods, "p>a q>b r>b s>b t>a", []api.Pod{pod("p", 10, 0), pod("q", 1, 0), pod("r", 1, 0), pod("s", 1, 0), pod("t", 0, 0)}},
		{"alone first", two, noMode, "p>a q>b r>b", []api.Pod{alone(pod("p", 0, 0)), pod("q", 0, 0), pod("r", 0, 0)}},
		{"alone later", two, noMode, "p>a q>a r>b", []api.Pod{pod("p", 0, 0), pod("q", 0, 0), alone(pod("r", 0, 0))}},
		{"alone all", two, noMode, "p>a q>b", []api.Pod{alone(pod("p", 0, 0)), alone(pod("q", 0, 0))}},
		{"alone all", two, leastLeft, "p>a q>b", []api.Pod{alone(pod("p", 5, 5)), alone(pod("q", 1, 1))}},
		{"alone between", append(two[:2:2], node("c", 10, 10)), noMode, "p>a q>b r>a s>a", []api.Pod{pod("p", 0, 0), alone(pod("q", 0, 0)), pod("r", 0, 0), pod("s", 0, 0)}},
		{"alone between", append(two[:2:2], node("c", 10, 10)), fewestPods, "p>a q>b r>c s>a t>c", []api.Pod{pod("p", 0, 0), alone(pod("q", 0, 0)), pod("r", 0, 0), pod("s", 0, 0), pod("t", 0, 0)}},
		{"alone best", append(two[:2:2], node("c", 90, 90)), mostLeft, "p>c q>a r>b s>a", []api.Pod{alone(pod("p", 1, 1)), pod("q", 1, 1), pod("r", 1, 1), pod("s", 1, 1)}},
	} {
		t.Log(x.what) // shown where a row fails
		packed(t, filled(t, x.nodes...), 1, x.mode, x.want, x.pods...)
	}
}
