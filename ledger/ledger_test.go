package ledger_test

import (
	"fmt"
	"math"
	"slices"
	"strings"
	"testing"

	"joinery/api"
	"joinery/ledger"
	"joinery/spec"
)

const (
	most  = math.MaxInt64
	least = math.MinInt64
)

// names are those of nodes that the tests put, and some that they do not.
var names = []string{"a", "b", "c", "d", "e", "f", "g", "h", "i", "α", "ω", "none", "", "N", "\xff"}

// gangs are those that the tests take for, and some that they do not.
var gangs = []int{1, 2, 3, 4, 5, 0, -1, 999999, 1000000, most, least}

func of(cpu, mem int) api.Vec { return api.Vec{Cpu: cpu, Mem: mem} }

func node(name string, cpu, mem int) api.Node { return api.Node{Name: name, Cap: of(cpu, mem)} }

func place(pod, node string, cpu, mem int) api.Place {
	return api.Place{Pod: pod, Node: node, Need: of(cpu, mem)}
}

// told is all that l tells, as a text.
func told(l *ledger.Ledger) string {
	var b strings.Builder
	fmt.Fprintf(&b, "%+v\n", l.Nodes())
	for _, name := range names {
		v, pods := l.Used(name)
		fmt.Fprintf(&b, "%q %v %d\n", name, v, pods)
	}
	for _, gang := range gangs {
		fmt.Fprintf(&b, "%d %+v\n", gang, l.Places(gang))
	}
	return b.String()
}

// check asks for what a call answered.
func check(t *testing.T, what string, got, want api.Errno) {
	t.Helper()
	if got != want {
		t.Errorf("%s: %v, want %v", what, got, want)
	}
}

// refused asks for an error, and that nothing has changed (P5); twice, since the same calls answer the same (P3).
func refused(t *testing.T, what string, l *ledger.Ledger, call func() api.Errno, want api.Errno) {
	t.Helper()
	before := told(l)
	for range 2 {
		check(t, what, call(), want)
		if after := told(l); after != before {
			t.Errorf("P5: %s changed the ledger from\n%sto\n%s", what, before, after)
		}
	}
}

// filled is a ledger of these nodes.
func filled(t *testing.T, nodes ...api.Node) *ledger.Ledger {
	t.Helper()
	l := ledger.New()
	for _, n := range nodes {
		check(t, "P701: Put "+n.Name, l.Put(n), api.OK)
	}
	return l
}

// take asks for places that go.
func take(t *testing.T, l *ledger.Ledger, gang int, p ...api.Place) {
	t.Helper()
	check(t, fmt.Sprintf("P702: Take(%d, %+v)", gang, p), l.Take(gang, p), api.OK)
}

// takeRefused asks for places that do not go.
func takeRefused(t *testing.T, l *ledger.Ledger, want api.Errno, gang int, p ...api.Place) {
	t.Helper()
	refused(t, fmt.Sprintf("P702: Take(%d, %+v)", gang, p), l, func() api.Errno { return l.Take(gang, p) }, want)
}

func putRefused(t *testing.T, l *ledger.Ledger, n api.Node, want api.Errno) {
	t.Helper()
	refused(t, fmt.Sprintf("P701: Put(%+v)", n), l, func() api.Errno { return l.Put(n) }, want)
}

func goneRefused(t *testing.T, l *ledger.Ledger, name string, want api.Errno) {
	t.Helper()
	refused(t, fmt.Sprintf("P701: Gone(%q)", name), l, func() api.Errno { return l.Gone(name) }, want)
}

func giveRefused(t *testing.T, l *ledger.Ledger, gang int, want api.Errno) {
	t.Helper()
	refused(t, fmt.Sprintf("P702: Give(%d)", gang), l, func() api.Errno { return l.Give(gang) }, want)
}

func used(t *testing.T, l *ledger.Ledger, name string, want api.Vec, pods int) {
	t.Helper()
	if v, n := l.Used(name); v != want || n != pods {
		t.Errorf("P701: Used(%q) = %v, %d, want %v, %d", name, v, n, want, pods)
	}
}

func nodes(t *testing.T, l *ledger.Ledger, want ...api.Node) {
	t.Helper()
	if got := fmt.Sprintf("%+v", l.Nodes()); got != fmt.Sprintf("%+v", want) {
		t.Errorf("P701: Nodes() = %s, want %+v", got, want)
	}
}

func places(t *testing.T, l *ledger.Ledger, gang int, want ...api.Place) {
	t.Helper()
	if got := l.Places(gang); !slices.Equal(got, want) {
		t.Errorf("P702: Places(%d) = %+v, want %+v", gang, got, want)
	}
}

// eight is as many nodes as there may be, of 10 and 10.
func eight() []api.Node {
	var l []api.Node
	for _, name := range names[:api.MaxNodes] {
		l = append(l, node(name, 10, 10))
	}
	return l
}

func TestEmpty(t *testing.T) {
	for _, l := range []*ledger.Ledger{ledger.New(), {}} {
		nodes(t, l)
		for _, name := range names {
			used(t, l, name, of(0, 0), 0)
			goneRefused(t, l, name, api.ErrNone)
		}
		for _, gang := range gangs {
			places(t, l, gang)
			giveRefused(t, l, gang, api.ErrNone)
			takeRefused(t, l, api.ErrLong, gang)
			takeRefused(t, l, api.ErrNone, gang, place("p", "a", 0, 0))
		}
		check(t, "P701: Put", l.Put(node("a", 1, 1)), api.OK)
		take(t, l, 1, place("p", "a", 1, 1))
		nodes(t, l, node("a", 1, 1))
	}
}

// The document's example.
func TestGiveOfNothing(t *testing.T) {
	if err := ledger.New().Give(1); err != api.ErrNone {
		t.Errorf("P702: %v", err)
	}
}

func TestPutAsItSays(t *testing.T) {
	full := api.Node{Name: "αβ", Cap: of(api.Most, api.Most), Marks: []string{"a", "b", "c", "ω"}, Taints: []string{"hot"}, Closed: true}
	for _, n := range []api.Node{
		node("a", 10, 20), node("a", 0, 0), node("abcdefgh", api.Most, 0), full,
		{Name: "n", Marks: []string{"m"}}, {Name: "n", Taints: []string{"t"}}, {Name: "n", Closed: true},
		{Name: "n", Cap: of(3, 4), Marks: []string{}, Taints: []string{}},
	} {
		l := filled(t, n)
		nodes(t, l, n)
		used(t, l, n.Name, of(0, 0), 0)
	}
}

// wrong are nodes of name that spec.Node refuses, or of another name, by the errors.
func wrong(name string) map[api.Errno][]api.Node {
	twice, many := []string{"m", "m"}, []string{"a", "b", "c", "d", "e"}
	return map[api.Errno][]api.Node{
		api.ErrName: {
			node("", 10, 10), node("N", 10, 10), node("1a", 10, 10), node("abcdefghi", 10, 10), node("a\xff", 10, 10), node("a b", -1, -1),
			{Name: name, Cap: of(10, 10), Marks: twice}, {Name: name, Cap: of(10, 10), Taints: twice},
			{Name: name, Cap: of(10, 10), Marks: many}, {Name: name, Cap: of(10, 10), Taints: many},
			{Name: name, Cap: of(10, 10), Marks: []string{"b", "a"}}, {Name: name, Cap: of(10, 10), Taints: []string{""}},
		},
		api.ErrArg: {
			node(name, -1, 10), node(name, 10, -1), node(name, api.Most+1, 10), node(name, 10, api.Most+1),
			node(name, least, most), node(name, most, least), {Name: name, Cap: of(-1, 0), Marks: twice},
		},
	}
}

// Each node is refused where it would be new, where it is there, and where there are eight.
func TestPutOfWrongNodes(t *testing.T) {
	one := filled(t, node("a", 10, 10))
	take(t, one, 1, place("p", "a", 4, 4))
	all := filled(t, eight()...)
	take(t, all, 1, place("p", "a", 4, 4))
	for _, name := range []string{"a", "i"} {
		for err, l := range wrong(name) {
			for _, n := range l {
				if spec.Node(n) != err {
					t.Fatalf("the test has a node that is not refused as it says: %+v", n)
				}
				putRefused(t, ledger.New(), n, err)
				putRefused(t, one, n, err)
				putRefused(t, all, n, err)
			}
		}
	}
}

// P6: spec.Node's errors go ahead of ErrRoom and ErrLong.
func TestPutErrorsInOrder(t *testing.T) {
	l := filled(t, eight()...)
	take(t, l, 1, place("p", "a", 4, 4))
	bad := []string{"b", "a"}
	putRefused(t, l, api.Node{Name: "a", Cap: of(1, 1), Marks: bad}, api.ErrName)
	putRefused(t, l, api.Node{Name: "a", Cap: of(1, 1), Taints: bad}, api.ErrName)
	putRefused(t, l, node("a", -1, 1), api.ErrArg)
	putRefused(t, l, node("a", 3, api.Most+1), api.ErrArg)
	putRefused(t, l, node("a", 1, 1), api.ErrRoom)
	putRefused(t, l, api.Node{Name: "i", Cap: of(1, 1), Marks: bad}, api.ErrName)
	putRefused(t, l, node("i", -1, 1), api.ErrArg)
	putRefused(t, l, node("i", 1, 1), api.ErrLong)
}

func TestPutOfManyNodes(t *testing.T) {
	l := filled(t, eight()[:7]...)
	nodes(t, l, eight()[:7]...)
	check(t, "P701: Put with seven nodes there", l.Put(node("h", 10, 10)), api.OK)
	nodes(t, l, eight()...)
	for _, name := range []string{"i", "α", "ω", "aa"} {
		putRefused(t, l, node(name, 10, 10), api.ErrLong)
		putRefused(t, l, node(name, 0, 0), api.ErrLong)
	}
	want := eight()
	for i, n := range want {
		n.Cap, n.Closed = of(i, 20-i), true
		want[i] = n
		check(t, "P701: Put of one that is there, with eight nodes there", l.Put(n), api.OK)
		nodes(t, l, want...)
	}
	check(t, "P701: Gone", l.Gone("c"), api.OK)
	check(t, "P701: Put with seven nodes there again", l.Put(node("α", 1, 1)), api.OK)
	putRefused(t, l, node("c", 10, 10), api.ErrLong)
}

// What is used of a is 5 of the one, 7 of the other; nothing of b.
func TestPutOfLess(t *testing.T) {
	l := filled(t, node("a", 10, 10), node("b", 10, 10))
	take(t, l, 1, place("p", "a", 3, 0), place("q", "a", 0, 6))
	take(t, l, 2, place("p", "a", 2, 1))
	for _, x := range []struct {
		cap  api.Vec
		want api.Errno
	}{
		{of(5, 7), api.OK}, {of(5, 6), api.ErrRoom}, {of(4, 7), api.ErrRoom}, {of(4, 6), api.ErrRoom},
		{of(4, 10), api.ErrRoom}, {of(10, 6), api.ErrRoom}, {of(0, 0), api.ErrRoom}, {of(api.Most, 0), api.ErrRoom},
		{of(5, 10), api.OK}, {of(10, 7), api.OK}, {of(api.Most, api.Most), api.OK}, {of(5, 7), api.OK}, {of(7, 5), api.ErrRoom},
	} {
		n := api.Node{Name: "a", Cap: x.cap}
		if x.want != api.OK {
			putRefused(t, l, n, x.want)
			continue
		}
		check(t, fmt.Sprintf("P701: Put of %v", x.cap), l.Put(n), api.OK)
		nodes(t, l, n, node("b", 10, 10))
		used(t, l, "a", of(5, 7), 3)
	}
	check(t, "P701: Put of one of which nothing is used", l.Put(node("b", 0, 0)), api.OK)
	check(t, "P701: Put of a new one", l.Put(node("c", 0, 0)), api.OK)
	check(t, "P702: Give", l.Give(1), api.OK)
	check(t, "P701: Put of less", l.Put(node("a", 2, 1)), api.OK)
	putRefused(t, l, node("a", 2, 0), api.ErrRoom)
	check(t, "P702: Give", l.Give(2), api.OK)
	check(t, "P701: Put of nothing", l.Put(node("a", 0, 0)), api.OK)
}

// What stands on a node stays there, whatever else is put.
func TestPutWithPodsThere(t *testing.T) {
	l := filled(t, api.Node{Name: "a", Cap: of(10, 10), Marks: []string{"m"}, Taints: []string{"t"}})
	p := []api.Place{place("p", "a", 3, 4), {Pod: "q", Node: "a", Need: of(1, 1), Alone: true}}
	take(t, l, 1, p...)
	for _, n := range []api.Node{
		{Name: "a", Cap: of(10, 10), Marks: []string{"l", "n"}, Taints: []string{"t"}},
		{Name: "a", Cap: of(10, 10), Taints: []string{"u", "v"}},
		{Name: "a", Cap: of(10, 10), Closed: true},
		{Name: "a", Cap: of(5, 5), Marks: []string{"m"}, Closed: true},
		{Name: "a", Cap: of(5, 5)},
	} {
		check(t, fmt.Sprintf("P701: Put(%+v)", n), l.Put(n), api.OK)
		nodes(t, l, n)
		used(t, l, "a", of(4, 5), 2)
		places(t, l, 1, p...)
		goneRefused(t, l, "a", api.ErrState)
	}
	takeRefused(t, l, api.ErrRoom, 2, place("p", "a", 2, 0))
	check(t, "P701: Put of more", l.Put(node("a", 6, 5)), api.OK)
	take(t, l, 2, place("p", "a", 2, 0))
}

func TestGone(t *testing.T) {
	l := filled(t, node("a", 10, 10), node("b", 10, 10), node("c", 10, 10))
	take(t, l, 1, place("p", "a", 1, 1))
	take(t, l, 2, place("p", "b", 0, 0), place("q", "a", 2, 2))
	for _, name := range []string{"d", "", "A", "none"} {
		goneRefused(t, l, name, api.ErrNone)
	}
	goneRefused(t, l, "a", api.ErrState)
	goneRefused(t, l, "b", api.ErrState) // a pod that needs nothing stands there, too
	check(t, "P701: Gone of one where none stands", l.Gone("c"), api.OK)
	goneRefused(t, l, "c", api.ErrNone)
	nodes(t, l, node("a", 10, 10), node("b", 10, 10))
	takeRefused(t, l, api.ErrNone, 3, place("p", "c", 0, 0))
	check(t, "P702: Give", l.Give(2), api.OK)
	goneRefused(t, l, "a", api.ErrState)
	check(t, "P701: Gone of one that is free again", l.Gone("b"), api.OK)
	check(t, "P702: Give", l.Give(1), api.OK)
	check(t, "P701: Gone of one that is free again", l.Gone("a"), api.OK)
	nodes(t, l)
	used(t, l, "a", of(0, 0), 0)
	check(t, "P701: Put of one that was there", l.Put(node("a", 1, 1)), api.OK)
	used(t, l, "a", of(0, 0), 0)
	nodes(t, l, node("a", 1, 1))
}

// orders calls f with each order of l.
func orders(l []string, at int, f func([]string)) {
	if at == len(l) {
		f(l)
		return
	}
	for i := at; i < len(l); i++ {
		l[at], l[i] = l[i], l[at]
		orders(l, at+1, f)
		l[at], l[i] = l[i], l[at]
	}
}

// W5: by the bytes of the names, whatever the order in which they were put, and put again.
func TestNodesByNames(t *testing.T) {
	rising := []api.Node{node("a", 1, 1), node("a1", 2, 2), node("aa", 3, 3), node("b", 4, 4), node("z", 5, 5), node("ο", 6, 6), node("π", 7, 7)}
	byName := map[string]api.Node{}
	var all []string
	for _, n := range rising {
		byName[n.Name] = n
		all = append(all, n.Name)
	}
	want := fmt.Sprint(rising)
	orders(all, 0, func(order []string) {
		l := ledger.New()
		for _, name := range order {
			l.Put(byName[name])
		}
		l.Put(byName[order[0]])
		l.Gone(order[1])
		l.Put(byName[order[1]])
		if got := fmt.Sprint(l.Nodes()); got != want {
			t.Fatalf("P701: Nodes() = %s, want %s", got, want)
		}
	})
}

func TestUsed(t *testing.T) {
	l := filled(t, node("a", 100, 100), node("b", 100, 100), node("c", 100, 100))
	take(t, l, 1, place("p", "a", 1, 2), place("q", "b", 3, 4), place("r", "a", 10, 20))
	take(t, l, 2, place("p", "a", 5, 0))
	take(t, l, 3, place("p", "b", 0, 0), place("p", "b", 0, 0))
	used(t, l, "a", of(16, 22), 3)
	used(t, l, "b", of(3, 4), 3)
	used(t, l, "c", of(0, 0), 0)
	for _, none := range []string{"d", "", "A", "p"} {
		used(t, l, none, of(0, 0), 0)
	}
	check(t, "P702: Give", l.Give(1), api.OK)
	used(t, l, "a", of(5, 0), 1)
	used(t, l, "b", of(0, 0), 2)
	check(t, "P702: Give", l.Give(3), api.OK)
	used(t, l, "a", of(5, 0), 1)
	used(t, l, "b", of(0, 0), 0)
}
