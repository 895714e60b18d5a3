package ledger_test

import (
	"fmt"
	"reflect"
	"slices"
	"testing"

	"joinery/api"
	"joinery/ledger"
)

// scribbleTexts writes over a list and its spare room.
func scribbleTexts(l []string) {
	for i := range l[:cap(l)] {
		l[:cap(l)][i] = "scribble"
	}
}

// scribblePlaces writes over a list and its spare room.
func scribblePlaces(l []api.Place) {
	for i := range l[:cap(l)] {
		l[:cap(l)][i] = api.Place{Pod: "scribble", Node: "b", Need: of(9, 9), Alone: true}
	}
}

// scribbleNodes writes over a list, the lists in it, and their spare room.
func scribbleNodes(l []api.Node) {
	l = l[:cap(l)]
	for i := range l {
		scribbleTexts(l[i].Marks)
		scribbleTexts(l[i].Taints)
		l[i] = api.Node{Name: "scribble", Cap: of(9, 9), Closed: true}
	}
}

// roomy is nodes whose lists have spare room, and share one memory.
func roomy() (nodes []api.Node, marks []string) {
	marks = []string{"a", "b", "c", "d", "e", "f"}
	return []api.Node{
		{Name: "a", Cap: of(10, 10), Marks: marks[0:2], Taints: marks[1:3]},
		{Name: "b", Cap: of(10, 10), Marks: marks[1:3], Taints: marks[1:3], Closed: true},
		{Name: "c", Cap: of(10, 10), Marks: marks[0:0], Taints: marks[3:3]},
	}, marks
}

// P2: what is handed in is as it was, its spare room too, whether it is refused or not.
func TestHandedInIsAsItWas(t *testing.T) {
	in, marks := roomy()
	wasNodes, wasMarks := slices.Clone(in), slices.Clone(marks)
	p := []api.Place{place("p", "a", 1, 1), place("q", "b", 2, 2), place("r", "a", 3, 3), place("spare", "a", 99, 0), place("spare", "x", -1, 0)}
	wasPlaces := slices.Clone(p)
	l := ledger.New()
	for range 2 {
		for _, n := range in {
			check(t, "P701: Put", l.Put(n), api.OK)
		}
		for n := range len(p) + 1 {
			l.Take(n, p[:n])
		}
		for gang := range len(p) + 1 {
			l.Give(gang)
		}
		l.Put(api.Node{Name: "a", Cap: of(-1, 0), Marks: marks[:2]})
		l.Put(api.Node{Name: "a", Marks: marks})
		l.Gone("a")
	}
	if !reflect.DeepEqual(in, wasNodes) || !slices.Equal(marks, wasMarks) || !slices.Equal(p, wasPlaces) {
		t.Errorf("P2: what was handed in is %+v, %q, %+v", in, marks, p)
	}
}

// P2: what was handed in is not kept, and what was told is not what is kept: either may be written over.
func TestNothingIsShared(t *testing.T) {
	begin := func() (*ledger.Ledger, func()) {
		l := ledger.New()
		in, marks := roomy()
		for _, n := range in {
			check(t, "P701: Put", l.Put(n), api.OK)
		}
		p := []api.Place{place("p", "a", 1, 1), place("q", "b", 2, 2), place("r", "a", 3, 3), place("spare", "a", 4, 4)}
		check(t, "P702: Take", l.Take(1, p[:3]), api.OK)
		check(t, "P702: Take", l.Take(2, p[1:2]), api.OK)
		return l, func() { scribbleTexts(marks); scribbleNodes(in); scribblePlaces(p) }
	}
	same, _ := begin()
	want := told(same)
	for name, over := range map[string]func(l *ledger.Ledger, handed func()){
		"what was handed in": func(l *ledger.Ledger, handed func()) { handed() },
		"Nodes":              func(l *ledger.Ledger, handed func()) { scribbleNodes(l.Nodes()) },
		"Places":             func(l *ledger.Ledger, handed func()) { scribblePlaces(l.Places(1)); scribblePlaces(l.Places(2)) },
	} {
		l, handed := begin()
		over(l, handed)
		if got := told(l); got != want {
			t.Errorf("P2: %s was written over, and the ledger tells\n%s, not\n%s", name, got, want)
		}
		check(t, "P702: Give", l.Give(1), api.OK)
		used(t, l, "a", of(0, 0), 0) // what is given is what was taken
		used(t, l, "b", of(2, 2), 1)
		check(t, "P702: Give", l.Give(2), api.OK)
		used(t, l, "b", of(0, 0), 0)
	}
}

// P2: an answer is its asker's: neither another answer nor a later call touches it.
func TestAnswersStay(t *testing.T) {
	l := ledger.New()
	in, _ := roomy()
	for _, n := range in {
		l.Put(n)
	}
	take(t, l, 1, place("p", "a", 1, 1), place("q", "b", 2, 2))
	all, p := l.Nodes(), l.Places(1)
	wantNodes, wantPlaces := fmt.Sprintf("%+v", all), fmt.Sprintf("%+v", p)
	scribbleNodes(l.Nodes())
	scribblePlaces(l.Places(1))
	check(t, "P701: Put", l.Put(api.Node{Name: "a", Cap: of(5, 5), Marks: []string{"x", "y"}}), api.OK)
	check(t, "P702: Give", l.Give(1), api.OK)
	check(t, "P701: Gone", l.Gone("b"), api.OK)
	take(t, l, 1, place("z", "c", 3, 3), place("z", "c", 3, 3))
	if got := fmt.Sprintf("%+v", all); got != wantNodes {
		t.Errorf("P2: an answer of Nodes was %s, and is %s", wantNodes, got)
	}
	if got := fmt.Sprintf("%+v", p); got != wantPlaces {
		t.Errorf("P2: an answer of Places was %s, and is %s", wantPlaces, got)
	}
}

// P2: no two lists of one answer share memory, spare room counted.
func TestListsOfOneAnswer(t *testing.T) {
	l := ledger.New()
	in, _ := roomy()
	for _, n := range in {
		l.Put(n)
	}
	lists := func(all []api.Node) []*[]string {
		var out []*[]string
		for i := range all {
			out = append(out, &all[i].Marks, &all[i].Taints)
		}
		return out
	}
	for i := range lists(l.Nodes()) {
		all, want := l.Nodes(), l.Nodes()
		scribbleTexts(*lists(all)[i])
		*lists(all)[i], *lists(want)[i] = nil, nil
		if got := fmt.Sprintf("%+v", all); got != fmt.Sprintf("%+v", want) {
			t.Errorf("P2: list %d of an answer shares memory with another one: %s", i, got)
		}
	}
}

// P7: of two ledgers with the same names and gangs each is as if it were alone.
func TestTwoLedgers(t *testing.T) {
	one, other := ledger.New(), ledger.New()
	empty := told(other)
	check(t, "P701: Put", one.Put(node("a", 10, 10)), api.OK)
	take(t, one, 1, place("p", "a", 10, 10))
	if got := told(other); got != empty {
		t.Errorf("P7: the other ledger tells\n%s", got)
	}
	want := told(one)
	goneRefused(t, other, "a", api.ErrNone)
	giveRefused(t, other, 1, api.ErrNone)
	takeRefused(t, other, api.ErrNone, 1, place("p", "a", 1, 1))
	check(t, "P701: Put", other.Put(node("a", 3, 3)), api.OK)
	take(t, other, 1, place("q", "a", 3, 3))
	take(t, other, 2, place("r", "a", 0, 0))
	check(t, "P702: Give", other.Give(1), api.OK)
	check(t, "P702: Give", other.Give(2), api.OK)
	check(t, "P701: Gone", other.Gone("a"), api.OK)
	for _, n := range eight() {
		check(t, "P701: Put", other.Put(n), api.OK)
	}
	if got := told(one); got != want {
		t.Errorf("P7: the one ledger told\n%s, and tells\n%s", want, got)
	}
	check(t, "P701: Put", one.Put(node("i", 1, 1)), api.OK)
}
