package fit_test

import (
	"math"
	"reflect"
	"slices"
	"strings"
	"testing"

	"joinery/api"
	"joinery/fit"
	"joinery/spec"
)

const most = math.MaxInt64

func of(cpu, mem int) api.Vec { return api.Vec{Cpu: cpu, Mem: mem} }

// asked is what Why is asked with.
type asked struct {
	p      api.Pod
	n      api.Node
	used   api.Vec
	beside []api.Place
}

// ordinary is one that may stand there, with something of all.
func ordinary() asked {
	return asked{
		p:      api.Pod{Name: "p", Shard: 1, Need: of(2, 3), Picks: []string{"gpu", "ssd"}, Bears: []string{"cold", "hot"}},
		n:      api.Node{Name: "n", Cap: of(8, 9), Marks: []string{"big", "gpu", "ssd"}, Taints: []string{"hot"}},
		used:   of(4, 5),
		beside: []api.Place{{Pod: "q", Node: "n", Need: of(1, 1)}, {Pod: "r", Node: "n", Need: of(3, 4)}},
	}
}

// allowed fails the test if the pod, the node or used is one that Why is not promised for.
func (a asked) allowed(t *testing.T) {
	t.Helper()
	if pod, node := spec.Pod(a.p, api.MaxShards), spec.Node(a.n); pod != api.OK || node != api.OK || a.used.Cpu < 0 || a.used.Mem < 0 {
		t.Fatalf("the test asks for what may not be: %+v: %v, %v", a, pod, node)
	}
}

// why asks twice, since the same calls answer the same (P3).
func why(t *testing.T, a asked, want int) {
	t.Helper()
	a.allowed(t)
	for range 2 {
		if got := fit.Why(a.p, a.n, a.used, a.beside); got != want {
			t.Fatalf("P501: Why(%+v, %+v, %+v, %+v) = %d, want %d", a.p, a.n, a.used, a.beside, got, want)
		}
	}
}

func TestOrdinary(t *testing.T) {
	why(t, ordinary(), 0)
	a := ordinary()
	a.beside = nil
	why(t, a, 0)
	a.p.Alone = true
	why(t, a, 0)
	why(t, asked{p: api.Pod{Name: "p", Shard: 1}, n: api.Node{Name: "n"}}, 0)
}

// The document's example.
func TestClosedNode(t *testing.T) {
	why(t, asked{p: api.Pod{Name: "p", Shard: 1}, n: api.Node{Name: "n", Closed: true}}, 1)
}

// reasons make each reason so, by its number less 1, and leave the others as they were.
var reasons = []func(a *asked){
	func(a *asked) { a.n.Closed = true },
	func(a *asked) { a.p.Picks = []string{"gpu", "ssd", "tpu"} },
	func(a *asked) { a.n.Taints = []string{"hot", "wet"} },
	func(a *asked) { a.used.Mem = 7 },
	func(a *asked) { a.p.Alone = true },
	func(a *asked) { a.beside[1].Alone = true },
}

func TestEachReasonAlone(t *testing.T) {
	for i, so := range reasons {
		a := ordinary()
		so(&a)
		why(t, a, i+1)
	}
}

func TestEachPairOfReasons(t *testing.T) {
	for i, first := range reasons {
		for j := i + 1; j < len(reasons); j++ {
			a := ordinary()
			reasons[j](&a)
			first(&a)
			why(t, a, i+1)
		}
	}
}

func TestEachChoiceOfReasons(t *testing.T) {
	for choice := range 1 << len(reasons) {
		a := ordinary()
		want := 0
		for i, so := range slices.Backward(reasons) {
			if choice>>i&1 == 1 {
				so(&a)
				want = i + 1
			}
		}
		why(t, a, want)
	}
}

// rows are two sets of marks, with whether each of the first ones is among the second ones.
var rows = []struct {
	of, in []string
	all    bool
}{
	{nil, nil, true},
	{nil, []string{}, true},
	{[]string{}, nil, true},
	{nil, []string{"a"}, true},
	{[]string{}, []string{"a", "b", "c", "d"}, true},
	{[]string{"a"}, []string{"a"}, true},
	{[]string{"a", "b", "c", "d"}, []string{"a", "b", "c", "d"}, true},
	{[]string{"a"}, []string{"a", "b", "c"}, true},
	{[]string{"b"}, []string{"a", "b", "c"}, true},
	{[]string{"c"}, []string{"a", "b", "c"}, true},
	{[]string{"a", "c"}, []string{"a", "b", "c"}, true},
	{[]string{"α", "ω"}, []string{"a", "z", "α", "ω"}, true},
	{[]string{"a"}, nil, false},
	{[]string{"a"}, []string{}, false},
	{[]string{"a", "b", "c", "d"}, nil, false},
	{[]string{"a"}, []string{"b"}, false},
	{[]string{"a", "b"}, []string{"a"}, false},
	{[]string{"a", "b"}, []string{"b"}, false},
	{[]string{"a", "b", "c", "d"}, []string{"b", "c", "d"}, false},
	{[]string{"a", "b", "c", "d"}, []string{"b", "c", "d", "e"}, false},
	{[]string{"b", "c", "d", "e"}, []string{"a", "b", "c", "d"}, false},
	{[]string{"a", "b", "c", "d"}, []string{"a", "b", "c"}, false},
	{[]string{"a", "b", "c", "d"}, []string{"a", "b", "d"}, false},
	{[]string{"a", "b", "c", "d"}, []string{"a", "c", "d", "e"}, false},
	{[]string{"a"}, []string{"ab", "b"}, false},
	{[]string{"ab"}, []string{"a", "b"}, false},
	{[]string{"o"}, []string{"ο"}, false}, // a Latin one, a Greek one
	{[]string{"ς"}, []string{"σ"}, false},
}

func TestPicksAmongMarks(t *testing.T) {
	for _, x := range rows {
		a := ordinary()
		a.p.Picks, a.n.Marks = x.of, x.in
		want := 0
		if !x.all {
			want = 2
		}
		why(t, a, want)
	}
}

func TestTaintsAmongBears(t *testing.T) {
	for _, x := range rows {
		a := ordinary()
		a.n.Taints, a.p.Bears = x.of, x.in
		want := 0
		if !x.all {
			want = 3
		}
		why(t, a, want)
	}
}

// chosen is the set of those of four marks that a number's bits tell.
func chosen(bits int) []string {
	var l []string
	for i, s := range []string{"a", "b", "z", "α"} {
		if bits>>i&1 == 1 {
			l = append(l, s)
		}
	}
	return l
}

// Every choice of four marks for each of the four sets: none of them is taken for another one.
func TestEveryChoiceOfMarks(t *testing.T) {
	for bits := range 1 << 16 {
		picks, marks, taints, bears := bits&15, bits>>4&15, bits>>8&15, bits>>12
		want := 0
		if picks&^marks != 0 {
			want = 2
		} else if taints&^bears != 0 {
			want = 3
		}
		a := ordinary()
		a.p.Picks, a.n.Marks, a.n.Taints, a.p.Bears = chosen(picks), chosen(marks), chosen(taints), chosen(bears)
		why(t, a, want)
	}
}

// rooms are so much that is used, needed and there, with whether there is room.
var rooms = []struct {
	used, need, whole api.Vec
	fits              bool
}{
	{of(0, 0), of(0, 0), of(0, 0), true},
	{of(1, 2), of(3, 4), of(10, 10), true},
	{of(4, 5), of(2, 3), of(6, 8), true}, // just so
	{of(4, 5), of(3, 3), of(6, 8), false},
	{of(4, 5), of(2, 4), of(6, 8), false},
	{of(5, 5), of(2, 3), of(6, 8), false},
	{of(4, 6), of(2, 3), of(6, 8), false},
	{of(4, 5), of(2, 3), of(5, 8), false},
	{of(4, 5), of(2, 3), of(6, 7), false},
	{of(4, 5), of(3, 4), of(6, 8), false},
	{of(6, 8), of(0, 0), of(6, 8), true},
	{of(7, 8), of(0, 0), of(6, 8), false},
	{of(6, 9), of(0, 0), of(6, 8), false},
	{of(0, 0), of(6, 8), of(6, 8), true},
	{of(0, 0), of(7, 8), of(6, 8), false},
	{of(0, 0), of(6, 9), of(6, 8), false},
	{of(0, 0), of(1, 0), of(0, 0), false},
	{of(0, 0), of(0, 1), of(0, 0), false},
	{of(6, 0), of(0, 8), of(6, 8), true},
	{of(0, 8), of(6, 0), of(6, 8), true},
	{of(0, 0), of(api.Most, api.Most), of(api.Most, api.Most), true},
	{of(api.Most, api.Most), of(0, 0), of(api.Most, api.Most), true},
	{of(api.Most-1, api.Most-1), of(1, 1), of(api.Most, api.Most), true},
	{of(api.Most, api.Most-1), of(1, 1), of(api.Most, api.Most), false},
	{of(api.Most-1, api.Most), of(1, 1), of(api.Most, api.Most), false},
	{of(api.Most, 0), of(api.Most, 0), of(api.Most, api.Most), false},
	{of(0, api.Most), of(0, api.Most), of(api.Most, api.Most), false},
	{of(1<<32, 0), of(0, 0), of(1<<32-1, 0), false}, // all the same in their low halves, or less
	{of(0, 1<<32), of(0, 1<<31), of(0, 1<<32), false},
	{of(most, 0), of(0, 0), of(api.Most, api.Most), false}, // the greatest sum that is one
	{of(0, most), of(0, 0), of(api.Most, api.Most), false},
	{of(most-api.Most, 0), of(api.Most, 0), of(api.Most, api.Most), false},
	{of(0, most-api.Most), of(0, api.Most), of(api.Most, api.Most), false},
	{of(most, 0), of(1, 0), of(api.Most, api.Most), false}, // no sum
	{of(0, most), of(0, 1), of(api.Most, api.Most), false},
	{of(most, most), of(1, 1), of(api.Most, api.Most), false},
	{of(most, most), of(api.Most, api.Most), of(api.Most, api.Most), false},
	{of(most-api.Most+1, 0), of(api.Most, 0), of(api.Most, api.Most), false},
	{of(0, most-api.Most+1), of(0, api.Most), of(api.Most, api.Most), false},
	{of(most, 0), of(1, 0), of(0, 0), false}, // no sum, and the noughts beside its error would fit
	{of(0, most), of(0, 1), of(0, 0), false},
}

func TestRoom(t *testing.T) {
	for _, x := range rooms {
		a := ordinary()
		a.used, a.p.Need, a.n.Cap = x.used, x.need, x.whole
		want := 0
		if !x.fits {
			want = 4
		}
		why(t, a, want)
	}
}

// Every choice of small numbers for each part.
func TestEveryRoom(t *testing.T) {
	for bits := range 1 << 12 {
		used, need, whole := of(bits&3, bits>>2&3), of(bits>>4&3, bits>>6&3), of(bits>>8&3, bits>>10&3)
		want := 0
		if used.Cpu+need.Cpu > whole.Cpu || used.Mem+need.Mem > whole.Mem {
			want = 4
		}
		a := ordinary()
		a.used, a.p.Need, a.n.Cap = used, need, whole
		why(t, a, want)
	}
}

// crowd is n pods beside, those alone that the number's bits tell.
func crowd(n, bits int) []api.Place {
	var l []api.Place
	for i := range n {
		l = append(l, api.Place{Pod: "q" + string(rune('a'+i)), Node: "n", Alone: bits>>i&1 == 1})
	}
	return l
}

// Nobody beside to seven, a gang's most, each of them alone or not: nobody, the first, the last, in between, several.
func TestBeside(t *testing.T) {
	for n := range api.MaxPods {
		for bits := range 1 << n {
			a := ordinary()
			a.beside = crowd(n, bits)
			want := 0
			if bits != 0 {
				want = 6
			}
			why(t, a, want)
			a.p.Alone = true
			want = 0
			if n > 0 {
				want = 5
			}
			why(t, a, want)
		}
	}
}

// No list and an empty one are the same (P2).
func TestEmptyLists(t *testing.T) {
	for _, alone := range []bool{false, true} {
		a := ordinary()
		a.p.Alone, a.beside = alone, []api.Place{}
		a.p.Picks, a.n.Taints = []string{}, []string{}
		why(t, a, 0)
		a.beside, a.p.Picks, a.n.Taints = nil, nil, nil
		why(t, a, 0)
		a.n.Marks, a.p.Bears = []string{}, []string{}
		why(t, a, 0)
		a.n.Marks, a.p.Bears = nil, nil
		why(t, a, 0)
	}
}

// variant puts one thing into what is asked; not tells the reason that is then so, 0 none.
type variant struct {
	put func(a *asked)
	not int
}

func closedVariants() []variant {
	return []variant{{func(a *asked) { a.n.Closed = false }, 0}, {func(a *asked) { a.n.Closed = true }, 1}}
}

func markVariants(not int, put func(a *asked, of, in []string)) []variant {
	var l []variant
	for _, x := range rows {
		v := variant{func(a *asked) { put(a, x.of, x.in) }, 0}
		if !x.all {
			v.not = not
		}
		l = append(l, v)
	}
	return l
}

func roomVariants() []variant {
	var l []variant
	for _, x := range rooms {
		v := variant{func(a *asked) { a.used, a.p.Need, a.n.Cap = x.used, x.need, x.whole }, 0}
		if !x.fits {
			v.not = 4
		}
		l = append(l, v)
	}
	return l
}

func besideVariants() []variant {
	with := func(alone bool, beside []api.Place) func(a *asked) {
		return func(a *asked) { a.p.Alone, a.beside = alone, beside }
	}
	return []variant{
		{with(false, nil), 0}, {with(true, nil), 0},
		{with(false, crowd(1, 0)), 0}, {with(true, crowd(1, 0)), 5},
		{with(false, crowd(1, 1)), 6}, {with(true, crowd(1, 1)), 5},
		{with(false, crowd(3, 0)), 0}, {with(true, crowd(3, 0)), 5},
		{with(false, crowd(3, 1)), 6}, {with(false, crowd(3, 2)), 6}, {with(false, crowd(3, 4)), 6}, {with(true, crowd(3, 4)), 5},
	}
}

// Everything together with everything: the first reason that is so is told.
func TestEverythingTogether(t *testing.T) {
	a := ordinary()
	var each func(rest [][]variant, want int)
	each = func(rest [][]variant, want int) {
		if len(rest) == 0 {
			if got := fit.Why(a.p, a.n, a.used, a.beside); got != want {
				t.Fatalf("P501: Why(%+v, %+v, %+v, %+v) = %d, want %d", a.p, a.n, a.used, a.beside, got, want)
			}
			return
		}
		for _, v := range rest[0] {
			v.put(&a)
			first := want
			if first == 0 {
				first = v.not
			}
			each(rest[1:], first)
		}
	}
	each([][]variant{
		closedVariants(),
		markVariants(2, func(a *asked, of, in []string) { a.p.Picks, a.n.Marks = of, in }),
		markVariants(3, func(a *asked, of, in []string) { a.n.Taints, a.p.Bears = of, in }),
		roomVariants(),
		besideVariants(),
	}, 0)
}

// What the promise does not name is not looked at: names, shards, what those beside need.
func TestNotLookedAt(t *testing.T) {
	for want := range len(reasons) + 1 {
		a := ordinary()
		if want > 0 {
			reasons[want-1](&a)
		}
		for _, name := range []string{"n", "p", "q", "gpu", "ω"} {
			a.p.Name, a.n.Name = name, name
			for shard := 1; shard <= api.MaxShards; shard++ {
				a.p.Shard = shard
				why(t, a, want)
			}
		}
		for i := range a.beside {
			a.beside[i].Need = of(api.Most, api.Most)
		}
		why(t, a, want)
	}
}

// roomy is one whose lists have spare room, filled, and share one memory; beside it all of that memory.
func roomy() (asked, []string, []api.Place) {
	marks := []string{"gpu", "ssd", "tpu", "cold", "hot", "wet", "big", "gpu", "ssd", "tpu", "hot", "wet"}
	places := []api.Place{{Pod: "q", Node: "n"}, {Pod: "r", Node: "n"}, {Pod: "s", Node: "n", Alone: true}}
	a := ordinary()
	a.p.Picks, a.p.Bears = marks[0:2], marks[3:5]
	a.n.Marks, a.n.Taints = marks[6:9], marks[10:11]
	a.beside = places[:2]
	return a, marks, places
}

// P2: what was handed in is as it was, its spare room too, and the answer does not hang on that room.
func TestHandedInIsAsItWas(t *testing.T) {
	for choice := range 1 << len(reasons) {
		a, marks, places := roomy()
		want := 0
		for i, so := range slices.Backward(reasons) {
			if choice>>i&1 == 1 {
				so(&a)
				want = i + 1
			}
		}
		picks, bears, has, taints := slices.Clone(a.p.Picks), slices.Clone(a.p.Bears), slices.Clone(a.n.Marks), slices.Clone(a.n.Taints)
		allMarks, allPlaces := slices.Clone(marks), slices.Clone(places)
		why(t, a, want)
		if !slices.Equal(marks, allMarks) || !slices.Equal(places, allPlaces) {
			t.Errorf("P2: handed in %q, %+v, then %q, %+v", allMarks, allPlaces, marks, places)
		}
		if got := [][]string{a.p.Picks, a.p.Bears, a.n.Marks, a.n.Taints}; !reflect.DeepEqual(got, [][]string{picks, bears, has, taints}) {
			t.Errorf("P2: the sets are now %q", got)
		}
	}
}

// P2: nothing is kept: what is written over what was handed in, behind the call, is what the next one goes by.
func TestNothingIsKept(t *testing.T) {
	a, marks, places := roomy()
	why(t, a, 0)
	marks[8] = "sss"
	why(t, a, 2)
	marks[8] = "ssd"
	marks[10] = "wet"
	why(t, a, 3)
	marks[10] = "hot"
	places[1].Alone = true
	why(t, a, 6)
	places[1].Alone = false
	why(t, a, 0)
}

// What may not be handed in: each call ends (P1) and changes nothing (P2), whatever it answers (P8).
func TestWhatMayNotBe(t *testing.T) {
	numbers := []int{math.MinInt64, math.MinInt64 + 1, -1, 0, 1, api.Most + 1, most}
	for _, used := range numbers {
		for _, need := range numbers {
			for _, whole := range numbers {
				fit.Why(api.Pod{Need: of(need, used)}, api.Node{Cap: of(whole, need)}, of(used, whole), nil)
			}
		}
	}
	long := slices.Repeat([]string{"b", "a", "", "\xff", strings.Repeat("ω", 1000), "a"}, 20000)
	other := append(slices.Clone(long), "none")
	crowd := slices.Repeat([]api.Place{{Pod: "\xff", Need: of(-1, most)}}, 100000)
	longWas, otherWas, crowdWas := slices.Clone(long), slices.Clone(other), slices.Clone(crowd)
	for _, alone := range []bool{false, true} {
		fit.Why(api.Pod{Name: "\xff", Shard: -1, Picks: long, Bears: other, Alone: alone}, api.Node{Marks: other, Taints: long}, of(-1, most), crowd)
		fit.Why(api.Pod{Picks: other, Bears: long, Alone: alone}, api.Node{Marks: long, Taints: other}, of(0, 0), crowd)
		fit.Why(api.Pod{Picks: long, Bears: long, Alone: alone}, api.Node{Marks: long, Taints: long}, of(0, 0), crowd)
	}
	if !slices.Equal(long, longWas) || !slices.Equal(other, otherWas) || !slices.Equal(crowd, crowdWas) {
		t.Error("P2: what was handed in has been changed")
	}
}
