package ledger_test

import (
	"cmp"
	"fmt"
	"math/big"
	"math/rand/v2"
	"slices"
	"strings"
	"testing"

	"joinery/api"
	"joinery/ledger"
	"joinery/spec"
)

// taken is what a gang has.
type taken struct {
	gang int
	p    []api.Place
}

// model is a ledger that keeps what was put and taken, and works out all else anew, in numbers without end.
type model struct {
	nodes []api.Node
	takes []taken
}

func (m *model) node(name string) int {
	return slices.IndexFunc(m.nodes, func(n api.Node) bool { return n.Name == name })
}

func (m *model) gang(gang int) int {
	return slices.IndexFunc(m.takes, func(x taken) bool { return x.gang == gang })
}

// on is all places on a node, and those of more that are on it.
func (m *model) on(name string, more []api.Place) []api.Place {
	var l []api.Place
	for _, x := range append(slices.Clone(m.takes), taken{p: more}) {
		for _, q := range x.p {
			if q.Node == name {
				l = append(l, q)
			}
		}
	}
	return l
}

func sum(l []api.Place) (cpu, mem *big.Int) {
	cpu, mem = new(big.Int), new(big.Int)
	for _, q := range l {
		cpu.Add(cpu, big.NewInt(int64(q.Need.Cpu)))
		mem.Add(mem, big.NewInt(int64(q.Need.Mem)))
	}
	return cpu, mem
}

func fits(l []api.Place, room api.Vec) bool {
	cpu, mem := sum(l)
	return cpu.Cmp(big.NewInt(int64(room.Cpu))) <= 0 && mem.Cmp(big.NewInt(int64(room.Mem))) <= 0
}

func (m *model) Put(n api.Node) api.Errno {
	if err := spec.Node(n); err != api.OK {
		return err
	}
	at := m.node(n.Name)
	switch {
	case at >= 0 && !fits(m.on(n.Name, nil), n.Cap):
		return api.ErrRoom
	case at < 0 && len(m.nodes) == 8:
		return api.ErrLong
	case at < 0:
		m.nodes = append(m.nodes, n)
	default:
		m.nodes[at] = n
	}
	return api.OK
}

func (m *model) Gone(name string) api.Errno {
	at := m.node(name)
	if at < 0 {
		return api.ErrNone
	}
	if len(m.on(name, nil)) > 0 {
		return api.ErrState
	}
	m.nodes = slices.Delete(m.nodes, at, at+1)
	return api.OK
}

func (m *model) Take(gang int, p []api.Place) api.Errno {
	if m.gang(gang) >= 0 {
		return api.ErrTwice
	}
	if len(p) == 0 {
		return api.ErrLong
	}
	for _, q := range p {
		if m.node(q.Node) < 0 {
			return api.ErrNone
		}
		if q.Need.Cpu < 0 || q.Need.Mem < 0 {
			return api.ErrArg
		}
	}
	for _, n := range m.nodes {
		if !fits(m.on(n.Name, p), n.Cap) {
			return api.ErrRoom
		}
	}
	m.takes = append(m.takes, taken{gang, p})
	return api.OK
}

func (m *model) Give(gang int) api.Errno {
	at := m.gang(gang)
	if at < 0 {
		return api.ErrNone
	}
	m.takes = slices.Delete(m.takes, at, at+1)
	return api.OK
}

// told is as a ledger's.
func (m *model) told() string {
	var b strings.Builder
	fmt.Fprintf(&b, "%+v\n", slices.SortedFunc(slices.Values(m.nodes), func(x, y api.Node) int { return cmp.Compare(x.Name, y.Name) }))
	for _, name := range names {
		l := m.on(name, nil)
		cpu, mem := sum(l)
		fmt.Fprintf(&b, "%q {%v %v} %d\n", name, cpu, mem, len(l))
	}
	for _, gang := range gangs {
		var p []api.Place
		if at := m.gang(gang); at >= 0 {
			p = m.takes[at].p
		}
		fmt.Fprintf(&b, "%d %+v\n", gang, p)
	}
	return b.String()
}

// keeper is what a ledger and the model have in common.
type keeper interface {
	Put(n api.Node) api.Errno
	Gone(name string) api.Errno
	Take(gang int, p []api.Place) api.Errno
	Give(gang int) api.Errno
}

// call is one of a keeper, and how it is told.
type call struct {
	name string
	of   func(k keeper) api.Errno
}

func putOf(n api.Node) call {
	return call{fmt.Sprintf("Put(%+v)", n), func(k keeper) api.Errno { return k.Put(n) }}
}

func goneOf(name string) call {
	return call{fmt.Sprintf("Gone(%q)", name), func(k keeper) api.Errno { return k.Gone(name) }}
}

func takeOf(gang int, p ...api.Place) call {
	return call{fmt.Sprintf("Take(%d, %+v)", gang, p), func(k keeper) api.Errno { return k.Take(gang, p) }}
}

func giveOf(gang int) call {
	return call{fmt.Sprintf("Give(%d)", gang), func(k keeper) api.Errno { return k.Give(gang) }}
}

// room asks for P703 by what the ledger itself tells: of each node its places, what is used, and that no place is on a node that is not there.
func room(t *testing.T, l *ledger.Ledger) {
	t.Helper()
	var all model
	for _, gang := range gangs {
		all.takes = append(all.takes, taken{gang, l.Places(gang)})
	}
	on := 0
	for _, n := range l.Nodes() {
		p := all.on(n.Name, nil)
		v, pods := l.Used(n.Name)
		on += pods
		if cpu, mem := sum(p); !fits(p, n.Cap) || fmt.Sprint(cpu, mem) != fmt.Sprint(v.Cpu, v.Mem) || pods != len(p) {
			t.Fatalf("P703: of %+v %v is used by %d, of %+v", n, v, pods, p)
		}
	}
	for _, x := range all.takes {
		on -= len(x.p)
	}
	if on != 0 {
		t.Fatalf("P703: places on nodes that are not there: %s", told(l))
	}
}

// play makes the calls of a ledger and of the model; the ledger must answer and tell the same after each.
func play(t *testing.T, calls []call) (answers []api.Errno) {
	t.Helper()
	l, m := ledger.New(), &model{}
	var path []string
	for _, c := range calls {
		path = append(path, c.name)
		got, want := c.of(l), c.of(m)
		if got != want {
			t.Fatalf("P701, P702: %s\nanswers %v, want %v", strings.Join(path, "\n"), got, want)
		}
		if got, want := told(l), m.told(); got != want {
			t.Fatalf("P701, P702: %s\ntells %s, want %s", strings.Join(path, "\n"), got, want)
		}
		room(t, l)
		answers = append(answers, got)
	}
	return answers
}

// anyPart is a number of a Need or a Cap: small as a rule, now and then one that may not be.
func anyPart(r *rand.Rand, small int) int {
	odd := []int{-1, least, most, most - 1, 1 << 62, api.Most, api.Most + 1}
	if r.IntN(40) == 0 {
		return odd[r.IntN(len(odd))]
	}
	return r.IntN(small)
}

// anyPlaces is up to five of them, on few nodes, so that several are on one.
func anyPlaces(r *rand.Rand) []api.Place {
	p := make([]api.Place, r.IntN(6))
	for i := range p {
		p[i] = place(string(rune('p'+i)), names[r.IntN(4)], anyPart(r, 8), anyPart(r, 8))
		if r.IntN(30) == 0 {
			p[i].Node = names[r.IntN(len(names))]
		}
		p[i].Alone = r.IntN(3) == 0
	}
	return p
}

func anyCall(r *rand.Rand) call {
	marks := []string{"a", "b", "c", "d", "e"}
	from := r.IntN(5)
	gang := gangs[r.IntN(7)]
	switch r.IntN(8) {
	case 0, 1:
		n := node(names[r.IntN(len(names))], anyPart(r, 30), anyPart(r, 30))
		n.Marks, n.Closed = marks[from:from+r.IntN(6-from)], r.IntN(2) == 0
		return putOf(n)
	case 2:
		n := node(names[r.IntN(4)], anyPart(r, 30), anyPart(r, 30))
		n.Taints = marks[from : from+r.IntN(6-from)]
		return putOf(n)
	case 3:
		return goneOf(names[r.IntN(len(names))])
	case 4:
		return giveOf(gang)
	}
	return takeOf(gang, anyPlaces(r)...)
}

// P703, and all of P701 and P702, over long rows of any calls. The test counts that each answer of each call came up.
func TestAnyCalls(t *testing.T) {
	r := rand.New(rand.NewPCG(7, 11))
	seen := map[string]int{}
	for range 150 {
		calls := make([]call, 120)
		for i := range calls {
			calls[i] = anyCall(r)
		}
		for i, err := range play(t, calls) {
			name, _, _ := strings.Cut(calls[i].name, "(")
			seen[name+" "+err.Error()]++
		}
	}
	for _, want := range []string{
		"Put ok", "Put name", "Put arg", "Put room", "Put long", "Gone ok", "Gone none", "Gone state",
		"Take ok", "Take twice", "Take long", "Take none", "Take arg", "Take room", "Give ok", "Give none",
	} {
		if seen[want] < 50 {
			t.Errorf("the calls answered %q %d times, too few to tell: %v", want, seen[want], seen)
		}
	}
}

// P703, over each row of four calls out of these, in each order.
func TestEachOrderOfCalls(t *testing.T) {
	few := []call{
		putOf(node("a", 3, 3)), putOf(node("a", 2, 1)), putOf(node("b", 1, 2)),
		goneOf("a"), goneOf("b"), giveOf(1), giveOf(2),
		takeOf(1, place("p", "a", 2, 1)), takeOf(2, place("p", "a", 1, 1), place("q", "a", 0, 1)),
		takeOf(2, place("p", "b", 0, 0), place("q", "a", 1, 2)), takeOf(1, place("p", "a", 2, 1), place("q", "a", 2, 1)),
	}
	row := make([]call, 6)
	row[0], row[1] = few[0], few[2] // where nothing is put, all else is refused
	n := len(few)
	for i := range n * n * n * n {
		for at := 2; at < len(row); at++ {
			row[at] = few[i%n]
			i /= n
		}
		play(t, row)
	}
}
