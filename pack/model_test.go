package pack_test

import (
	"cmp"
	"fmt"
	"math/rand/v2"
	"slices"
	"testing"

	"joinery/api"
	"joinery/ledger"
	"joinery/pack"
)

// has is a gang with its places.
type has struct {
	gang int
	p    []api.Place
}

// model keeps nodes and who has which places, and works out all else anew from the document's words, without any layer of the program.
type model struct {
	nodes []api.Node
	gangs []has
}

// on is the places of p on that node.
func on(p []api.Place, node string) []api.Place {
	var l []api.Place
	for _, q := range p {
		if q.Node == node {
			l = append(l, q)
		}
	}
	return l
}

// all is the places of all gangs.
func (m *model) all() []api.Place {
	var l []api.Place
	for _, x := range m.gangs {
		l = append(l, x.p...)
	}
	return l
}

func within(of, in []string) bool {
	return !slices.ContainsFunc(of, func(s string) bool { return !slices.Contains(in, s) })
}

func sum(p []api.Place) api.Vec {
	var v api.Vec
	for _, q := range p {
		v.Cpu += q.Need.Cpu
		v.Mem += q.Need.Mem
	}
	return v
}

// bears tells whether n bears p, where all of there stand on it, of which near are of p's gang.
func (m *model) bears(n api.Node, p api.Pod, there, near []api.Place) bool {
	v := sum(there)
	room := v.Cpu+p.Need.Cpu <= n.Cap.Cpu && v.Mem+p.Need.Mem <= n.Cap.Mem
	crowd := p.Alone && len(near) > 0 || slices.ContainsFunc(near, func(q api.Place) bool { return q.Alone })
	return !n.Closed && within(p.Picks, n.Marks) && within(n.Taints, p.Bears) && room && !crowd
}

func (m *model) score(mode int, n api.Node, p api.Pod, there []api.Place) int {
	v := sum(there)
	part := func(whole, used int) int {
		if whole == 0 {
			return 100
		}
		return 100 * (whole - used) / whole
	}
	left := part(n.Cap.Cpu, v.Cpu+p.Need.Cpu) + part(n.Cap.Mem, v.Mem+p.Need.Mem)
	switch mode {
	case 0:
		return left
	case 1:
		return 200 - left
	case 2:
		return 1000 - len(there)
	}
	return 0
}

func (m *model) Pack(gang int, pods []api.Pod, mode int) ([]api.Place, api.Errno) {
	if slices.ContainsFunc(m.gangs, func(x has) bool { return x.gang == gang }) {
		return nil, api.ErrTwice
	}
	if len(pods) == 0 {
		return nil, api.ErrLong
	}
	type choice struct {
		name  string
		score int
	}
	var mine []api.Place
	for _, p := range pods {
		var may []choice
		for _, n := range m.nodes {
			there := on(append(m.all(), mine...), n.Name)
			if m.bears(n, p, there, on(mine, n.Name)) {
				may = append(may, choice{n.Name, m.score(mode, n, p, there)})
			}
		}
		if len(may) == 0 {
			return nil, api.ErrRoom
		}
		best := slices.MinFunc(may, func(x, y choice) int {
			return cmp.Or(cmp.Compare(y.score, x.score), cmp.Compare(x.name, y.name))
		})
		mine = append(mine, api.Place{Pod: p.Name, Node: best.name, Need: p.Need, Alone: p.Alone})
	}
	m.gangs = append(m.gangs, has{gang, mine})
	return mine, api.OK
}

func (m *model) give(gang int) {
	m.gangs = slices.DeleteFunc(m.gangs, func(x has) bool { return x.gang == gang })
}

// put does as the ledger did.
func (m *model) put(n api.Node) {
	m.nodes = append(slices.DeleteFunc(m.nodes, func(x api.Node) bool { return x.Name == n.Name }), n)
}

// told is as a ledger's that has all of it.
func (m *model) told(t *testing.T) string {
	t.Helper()
	l := filled(t, m.nodes...)
	for _, x := range m.gangs {
		if err := l.Take(x.gang, x.p); err != api.OK {
			t.Fatalf("P702: Take(%d, %+v): %v", x.gang, x.p, err)
		}
	}
	return told(l)
}

// where asks for P802 in words of its own, of a gang that has gone: each pod's node was open, has its marks, none of the taints that it does not bear, room for all that are there, and no two of the gang where one must be alone.
func where(t *testing.T, l *ledger.Ledger, pods []api.Pod, out []api.Place) {
	t.Helper()
	byName := map[string]api.Node{}
	for _, n := range l.Nodes() {
		byName[n.Name] = n
	}
	for i, q := range out {
		n, there := byName[q.Node]
		used, _ := l.Used(q.Node)
		switch {
		case !there || n.Closed:
			t.Fatalf("P802: %+v stands on no node that is open", q)
		case !within(pods[i].Picks, n.Marks):
			t.Fatalf("P802: %+v stands where marks are missing: %+v", pods[i], n)
		case !within(n.Taints, pods[i].Bears):
			t.Fatalf("P802: %+v stands where taints are that it does not bear: %+v", pods[i], n)
		case used.Cpu > n.Cap.Cpu || used.Mem > n.Cap.Mem:
			t.Fatalf("P802: %v are used of %+v", used, n)
		case pods[i].Alone && len(on(out, q.Node)) > 1:
			t.Fatalf("P802: %+v is not alone: %+v", q, out)
		}
	}
}

// both packs with the ledger and with the model: they must answer and tell the same.
func both(t *testing.T, l *ledger.Ledger, m *model, gang int, pods []api.Pod, mode int) api.Errno {
	t.Helper()
	before := told(l)
	got, err := pack.Pack(l, gang, pods, mode)
	want, wantErr := m.Pack(gang, pods, mode)
	if err != wantErr || !slices.Equal(got, want) {
		t.Fatalf("P801: Pack(%d, %+v, %d) = %+v, %v, want %+v, %v, of\n%s", gang, pods, mode, got, err, want, wantErr, before)
	}
	if got, want := told(l), m.told(t); got != want {
		t.Fatalf("P801: after Pack(%d, %+v, %d) the ledger tells\n%s, want\n%s", gang, pods, mode, got, want)
	}
	if err == api.OK {
		where(t, l, pods, got)
	}
	return err
}

func anyMarks(r *rand.Rand, often int) []string {
	var l []string
	for _, s := range []string{"x", "y", "z"} {
		if r.IntN(often) == 0 {
			l = append(l, s)
		}
	}
	return l
}

// anyPart is small as a rule; now and then it is near the bound.
func anyPart(r *rand.Rand, small int) int {
	if r.IntN(50) == 0 {
		return api.Most - r.IntN(3)
	}
	return r.IntN(small)
}

func anyNode(r *rand.Rand) api.Node {
	return api.Node{Name: names[r.IntN(api.MaxNodes)], Cap: of(anyPart(r, 30), anyPart(r, 30)), Marks: anyMarks(r, 2), Taints: anyMarks(r, 6), Closed: r.IntN(8) == 0}
}

func anyPods(r *rand.Rand) []api.Pod {
	l := make([]api.Pod, r.IntN(api.MaxPods+1))
	if r.IntN(2) == 0 {
		l = l[:min(len(l), 3)]
	}
	for i := range l {
		l[i] = api.Pod{Name: string(rune('p' + i)), Shard: 1 + r.IntN(4), Need: of(anyPart(r, 6), anyPart(r, 6)), Picks: anyMarks(r, 6), Bears: anyMarks(r, 2), Alone: r.IntN(8) == 0}
	}
	return l
}

// P802, and all of P801, over many gangs in any order, while nodes come, change and go, and gangs are given back. The test counts that each answer came up.
func TestAnyGangs(t *testing.T) {
	r := rand.New(rand.NewPCG(8, 1))
	seen := map[string]int{}
	for range 250 {
		l, m := ledger.New(), &model{}
		for range 80 {
			switch gang := gangs[r.IntN(len(gangs))]; r.IntN(6) {
			case 0, 1:
				if n := anyNode(r); l.Put(n) == api.OK {
					m.put(n)
				}
			case 2:
				if name := names[r.IntN(api.MaxNodes)]; r.IntN(3) == 0 && l.Gone(name) == api.OK {
					m.nodes = slices.DeleteFunc(m.nodes, func(n api.Node) bool { return n.Name == name })
				}
				if l.Give(gang) == api.OK {
					m.give(gang)
				}
			default:
				mode := r.IntN(5) - 1
				seen[fmt.Sprint(both(t, l, m, gang, anyPods(r), mode), " ", mode)]++
			}
		}
	}
	for mode := -1; mode < 4; mode++ {
		for _, err := range []api.Errno{api.OK, api.ErrTwice, api.ErrLong, api.ErrRoom} {
			if n := seen[fmt.Sprint(err, " ", mode)]; n < 50 {
				t.Errorf("in mode %d %v came up %d times, too few to tell: %v", mode, err, n, seen)
			}
		}
	}
}

// orders is each order of the numbers below n.
func orders(n int) [][]int {
	if n == 0 {
		return [][]int{nil}
	}
	var l [][]int
	for _, o := range orders(n - 1) {
		for at := range n {
			l = append(l, slices.Insert(slices.Clone(o), at, n-1))
		}
	}
	return l
}

// pick is the items of l in that order.
func pick[T any](l []T, order []int) []T {
	var out []T
	for _, i := range order {
		out = append(out, l[i])
	}
	return out
}

// P802 over a few gangs: each order of them, each order of the pods in each, each mode.
func TestEachOrder(t *testing.T) {
	few := [][]api.Pod{
		{pod("p", 3, 1), picks(pod("q", 2, 2), "x"), alone(pod("r", 1, 0)), bears(pod("s", 4, 4), "y")},
		{alone(pod("p", 2, 2)), pod("q", 1, 3), bears(alone(pod("r", 0, 1)), "y")},
		{picks(pod("p", 2, 5), "x"), pod("q", 5, 2)},
		{pod("p", 1, 1), pod("q", 1, 1), pod("r", 1, 1)},
	}
	nodes := []api.Node{node("c", 6, 6), marked(node("a", 7, 8), "x"), tainted(node("b", 9, 9), "y"), closed(node("d", 90, 90))}
	gone := map[api.Errno]int{}
	for _, order := range orders(len(few)) {
		for turn := range 24 {
			for mode := range 4 {
				l, m := filled(t, nodes...), &model{nodes: nodes}
				for at, pods := range pick(few, order) {
					all := orders(len(pods))
					gone[both(t, l, m, 1+order[at], pick(pods, all[turn%len(all)]), mode)]++
				}
			}
		}
	}
	if gone[api.OK] < 100 || gone[api.ErrRoom] < 100 {
		t.Errorf("too few gangs went, or were refused, to tell: %v", gone)
	}
}
