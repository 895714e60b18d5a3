package pack_test

import (
	"fmt"
	"reflect"
	"slices"
	"testing"

	"joinery/api"
	"joinery/ledger"
	"joinery/pack"
)

// scribbleTexts writes over a list and its spare room.
func scribbleTexts(l []string) {
	for i := range l[:cap(l)] {
		l[:cap(l)][i] = "scribble"
	}
}

// scribblePlaces writes over a list and its spare room.
func scribblePlaces(l []api.Place) {
	for i := range l[:cap(l)] {
		l[:cap(l)][i] = api.Place{Pod: "scribble", Node: "b", Need: of(9, 9), Alone: true}
	}
}

// scribblePods writes over a list, the lists in it, and their spare room.
func scribblePods(l []api.Pod) {
	l = l[:cap(l)]
	for i := range l {
		scribbleTexts(l[i].Picks)
		scribbleTexts(l[i].Bears)
		l[i] = api.Pod{Name: "scribble", Shard: 9, Need: of(9, 9), Alone: true}
	}
}

// roomy is pods that share one memory of marks, each list with spare room; behind the four pods there are two more.
func roomy() (pods []api.Pod, marks []string) {
	marks = []string{"a", "b", "c", "d", "e", "f"}
	pods = []api.Pod{
		{Name: "p", Shard: 1, Need: of(1, 2), Picks: marks[0:2], Bears: marks[1:3]},
		{Name: "q", Shard: 2, Need: of(3, 4), Picks: marks[1:2], Bears: marks[1:3], Alone: true},
		{Name: "r", Shard: 3, Need: of(5, 6), Picks: marks[0:0], Bears: marks[1:4]},
		{Name: "s", Shard: 4, Need: of(7, 8), Picks: marks[3:3], Bears: marks[2:3]},
		{Name: "spare", Shard: 1, Need: of(99, 99), Picks: marks[4:6]},
		{Name: "spare", Shard: 1, Need: of(-1, 0), Picks: marks[5:5]},
	}
	return pods, marks
}

// marky is a ledger where the four pods go.
func marky(t *testing.T) *ledger.Ledger {
	t.Helper()
	return filled(t,
		api.Node{Name: "a", Cap: of(40, 40), Marks: []string{"a", "b"}, Taints: []string{"c"}},
		api.Node{Name: "b", Cap: of(30, 30), Marks: []string{"b"}},
		api.Node{Name: "c", Cap: of(20, 20), Marks: []string{"a", "b"}, Closed: true},
	)
}

const markyWant = "p>a q>b r>a s>a"

// P2: what is handed in is as it was, its spare room too, whether it is refused or not.
func TestHandedInIsAsItWas(t *testing.T) {
	pods, marks := roomy()
	wasPods, wasMarks := slices.Clone(pods), slices.Clone(marks)
	l := marky(t)
	for n := range len(pods) + 1 {
		pack.Pack(l, n, pods[:n], n)
		pack.Pack(l, n, pods[:n], n)
		l.Give(n)
	}
	pack.Pack(l, 1, pods[:4:4], mostLeft)
	if !reflect.DeepEqual(pods, wasPods) || !slices.Equal(marks, wasMarks) {
		t.Errorf("P2: what was handed in is %+v, %q", pods, marks)
	}
}

// P2: what was handed in is not kept, and what was told is not what is kept: either may be written over.
func TestNothingIsShared(t *testing.T) {
	l := marky(t)
	pods, marks := roomy()
	packed(t, l, 1, mostLeft, markyWant, pods[:4]...)
	want := told(l)
	pods, marks = roomy()
	l = marky(t)
	out, err := pack.Pack(l, 1, pods[:4], mostLeft)
	if err != api.OK || told(l) != want {
		t.Fatalf("P3: another ledger tells\n%s, %v, want\n%s", told(l), err, want)
	}
	wasOut := slices.Clone(out)
	scribbleTexts(marks)
	scribblePods(pods)
	if told(l) != want || !slices.Equal(out, wasOut) {
		t.Errorf("P2: what was handed in was written over, and the ledger tells\n%s, want\n%s", told(l), want)
	}
	scribblePlaces(out)
	if told(l) != want {
		t.Errorf("P2: an answer was written over, and the ledger tells\n%s, want\n%s", told(l), want)
	}
	give(t, l, 1)
	if got := told(l); got != told(marky(t)) {
		t.Errorf("P2: what was given is not what was taken: %s", got)
	}
}

// P2: an answer is its asker's: neither another answer nor a later call touches it.
func TestAnswersStay(t *testing.T) {
	l := marky(t)
	pods, _ := roomy()
	out, _ := pack.Pack(l, 1, pods[:4], mostLeft)
	want := slices.Clone(out)
	more, _ := pack.Pack(l, 2, pods[:3], leastLeft)
	scribblePlaces(more)
	scribblePlaces(l.Places(1))
	pack.Pack(l, 1, pods[:1], mostLeft)
	give(t, l, 1)
	pack.Pack(l, 1, pods[2:4], mostLeft)
	give(t, l, 2)
	l.Put(closed(node("b", 1, 1)))
	if !slices.Equal(out, want) {
		t.Errorf("P2: an answer was %+v, and is %+v", want, out)
	}
}

// P2: no list and an empty one are the same, handed in.
func TestNoListAndAnEmptyOne(t *testing.T) {
	for _, l := range [][]string{nil, {}, make([]string, 0, 4)} {
		p := pod("p", 1, 1)
		p.Picks, p.Bears = l, l
		n := node("a", 1, 1)
		n.Marks, n.Taints = l, l
		packed(t, filled(t, n), 1, mostLeft, "p>a", p)
	}
}

// P7: of two ledgers with the same names and gangs each is as if it were alone.
func TestTwoLedgers(t *testing.T) {
	one, other := marky(t), marky(t)
	empty := told(other)
	pods, _ := roomy()
	packed(t, one, 1, mostLeft, markyWant, pods[:4]...)
	if told(other) != empty {
		t.Errorf("P7: the other ledger tells\n%s", told(other))
	}
	want := told(one)
	packed(t, other, 1, mostLeft, markyWant, pods[:4]...)
	refused(t, other, 2, mostLeft, api.ErrRoom, pods[:5]...)
	packed(t, other, 2, leastLeft, "p>a", pods[:1]...)
	give(t, other, 1)
	if told(one) != want {
		t.Errorf("P7: the one ledger told\n%s, and tells\n%s", want, told(one))
	}
}

// P1, P8: of pods that spec does not allow only this is promised, that the call ends, and leaves what it was given; the ledger still has no more used than there is, and an error changes nothing.
func TestWhatMayNotBe(t *testing.T) {
	long := make([]string, 5000)
	for i := range long {
		long[i] = fmt.Sprint("m", i)
	}
	odd := []api.Pod{
		{}, pod("", 1, 1), pod("P", 1, 1), pod("\xff", 1, 1), pod("p", -1, 0), pod("p", 0, -1), pod("p", least, least), pod("p", most, most), pod("p", most, 0),
		pod("p", -5, 5), pod("p", api.Most+1, 0), picks(pod("p", 0, 0), "b", "a"), picks(pod("p", 0, 0), "\xff"), bears(pod("p", 0, 0), "c", "c"),
		picks(pod("p", 0, 0), long...), bears(pod("p", 0, 0), long...), {Name: "p", Shard: -7, Need: of(1, 1)}, {Name: "p", Shard: most},
	}
	for _, a := range odd {
		for _, b := range append(odd, pod("p", 1, 1)) {
			for _, mode := range []int{mostLeft, leastLeft, fewestPods, -1, most, least} {
				l := marky(t)
				before := told(l)
				in := []api.Pod{a, b, a}
				was := slices.Clone(in)
				out, err := pack.Pack(l, 1, in, mode)
				if err != api.OK && (len(out) > 0 || told(l) != before) {
					t.Errorf("P5: Pack(%+v): %v, %+v", in, err, out)
				}
				if !reflect.DeepEqual(in, was) {
					t.Errorf("P2: Pack(%+v) left %+v", was, in)
				}
				twin(t, l)
			}
		}
	}
}
