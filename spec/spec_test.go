package spec_test

import (
	"fmt"
	"math"
	"math/rand"
	"reflect"
	"slices"
	"strings"
	"testing"

	"joinery/api"
	"joinery/spec"
)

const most = 1099511627776 // 2^40, written out so that it is not told by the program's own number

// pod is one that is allowed wherever there are two shards or more.
func pod() api.Pod {
	return api.Pod{Name: "p", Shard: 2, Need: api.Vec{Cpu: 3, Mem: 4}, Picks: []string{"gpu", "ssd"}, Bears: []string{"hot"}}
}

// node is one that is allowed.
func node() api.Node {
	return api.Node{Name: "n", Cap: api.Vec{Cpu: 3, Mem: 4}, Marks: []string{"gpu", "ssd"}, Taints: []string{"hot"}}
}

// pods are n of them, of different names, in the shards 1 to 4 in turn.
func pods(n int) []api.Pod {
	var l []api.Pod
	for i := range n {
		l = append(l, api.Pod{Name: fmt.Sprint("p", i), Shard: 1 + i%4})
	}
	return l
}

func checkPod(t *testing.T, p api.Pod, shards int, want api.Errno) {
	t.Helper()
	if got := spec.Pod(p, shards); got != want {
		t.Errorf("P301: Pod(%#v, %d) = %v, want %v", p, shards, got, want)
	}
}

func checkNode(t *testing.T, n api.Node, want api.Errno) {
	t.Helper()
	if got := spec.Node(n); got != want {
		t.Errorf("P301: Node(%#v) = %v, want %v", n, got, want)
	}
}

func checkGang(t *testing.T, g api.Gang, shards int, want api.Errno) {
	t.Helper()
	if got := spec.Gang(g, shards); got != want {
		t.Errorf("P301: Gang(%#v, %d) = %v, want %v", g, shards, got, want)
	}
}

// names, with whether they are such.
var names = []struct {
	s    string
	want api.Errno
}{
	{"a", api.OK}, {"z9", api.OK}, {"αω", api.OK}, {"a1234567", api.OK}, {"ωωωωωωωω", api.OK},
	{"", api.ErrName}, {"A", api.ErrName}, {"9", api.ErrName}, {"9a", api.ErrName}, {"a12345678", api.ErrName},
	{"a b", api.ErrName}, {"a\n", api.ErrName}, {"\xff", api.ErrName}, {"a\xce", api.ErrName}, {"a-b", api.ErrName}, {"Ω", api.ErrName},
	{strings.Repeat("a", 100000), api.ErrName},
}

// sets, with whether they are such.
var sets = []struct {
	l    []string
	want api.Errno
}{
	{nil, api.OK}, {[]string{}, api.OK}, {[]string{"a"}, api.OK}, {[]string{"a", "b"}, api.OK}, {[]string{"a", "b", "c"}, api.OK},
	{[]string{"a", "b", "z", "α"}, api.OK}, {[]string{"a", "a0", "aa", "b"}, api.OK},
	{[]string{"a", "b", "c", "d", "e"}, api.ErrName}, {[]string{"a", "a"}, api.ErrName}, {[]string{"b", "a"}, api.ErrName},
	{[]string{"a", "c", "b"}, api.ErrName}, {[]string{"a", "b", "a"}, api.ErrName}, {[]string{"α", "a"}, api.ErrName},
	{[]string{""}, api.ErrName}, {[]string{"A"}, api.ErrName}, {[]string{"9"}, api.ErrName}, {[]string{"a", "b\xff"}, api.ErrName},
	{[]string{"", "a"}, api.ErrName}, {[]string{"a", "b", "c", "d e"}, api.ErrName},
}

// parts of a Vec, with whether they are in bounds.
var parts = []struct {
	n    int
	want api.Errno
}{
	{0, api.OK}, {1, api.OK}, {1000, api.OK}, {most - 1, api.OK}, {most, api.OK},
	{most + 1, api.ErrArg}, {2 * most, api.ErrArg}, {math.MaxInt64, api.ErrArg},
	{-1, api.ErrArg}, {-most, api.ErrArg}, {-most - 1, api.ErrArg}, {math.MinInt64, api.ErrArg},
}

func TestPodOrdinary(t *testing.T) {
	checkPod(t, pod(), 2, api.OK)
	checkPod(t, pod(), 4, api.OK)
	checkPod(t, api.Pod{Name: "a", Shard: 1}, 1, api.OK)
	checkPod(t, api.Pod{Name: "a", Shard: 1, Alone: true}, 1, api.OK)
	checkPod(t, api.Pod{}, 4, api.ErrName)
}

func TestPodName(t *testing.T) {
	for _, x := range names {
		p := pod()
		p.Name = x.s
		checkPod(t, p, 2, x.want)
	}
}

func TestPodShard(t *testing.T) {
	for _, shards := range []int{-1, 0, 1, 2, 3, 4, 5, 100, math.MaxInt64, math.MinInt64} {
		for _, shard := range []int{math.MinInt64, -2, -1, 0, 1, 2, 3, 4, 5, 6, 99, 100, 101, math.MaxInt64 - 1, math.MaxInt64} {
			want := api.ErrArg
			if shard > 0 && shard <= shards {
				want = api.OK
			}
			p := pod()
			p.Shard = shard
			checkPod(t, p, shards, want)
		}
	}
}

func TestPodNeed(t *testing.T) {
	for _, x := range parts {
		for _, y := range parts {
			p := pod()
			p.Need = api.Vec{Cpu: x.n, Mem: y.n}
			checkPod(t, p, 2, max(x.want, y.want))
		}
	}
}

func TestPodSets(t *testing.T) {
	for _, x := range sets {
		p := pod()
		p.Picks = x.l
		checkPod(t, p, 2, x.want)
		p = pod()
		p.Bears = x.l
		checkPod(t, p, 2, x.want)
		// The two sets have nothing to do with each other.
		p.Picks, p.Bears = []string{"hot", "z"}, []string{"a", "hot"}
		checkPod(t, p, 2, api.OK)
		for _, y := range sets {
			p.Picks, p.Bears = x.l, y.l
			checkPod(t, p, 2, max(x.want, y.want))
		}
	}
}

// Every choice of faults: the name's is told first, then the numbers', then the sets'.
func TestPodOrder(t *testing.T) {
	for faults := range 64 {
		p, want := pod(), api.OK
		for i, x := range []struct {
			do   func()
			want api.Errno
		}{
			{func() { p.Name = "P" }, api.ErrName},
			{func() { p.Shard = 3 }, api.ErrArg},
			{func() { p.Need.Cpu = -1 }, api.ErrArg},
			{func() { p.Need.Mem = most + 1 }, api.ErrArg},
			{func() { p.Picks = []string{"b", "a"} }, api.ErrName},
			{func() { p.Bears = []string{"9"} }, api.ErrName},
		} {
			if faults>>i&1 == 1 {
				x.do()
				if want == api.OK {
					want = x.want
				}
			}
		}
		checkPod(t, p, 2, want)
	}
}

func TestNodeOrdinary(t *testing.T) {
	checkNode(t, node(), api.OK)
	checkNode(t, api.Node{Name: "a"}, api.OK)
	checkNode(t, api.Node{Name: "a", Closed: true}, api.OK)
	checkNode(t, api.Node{}, api.ErrName)
}

func TestNodeName(t *testing.T) {
	for _, x := range names {
		n := node()
		n.Name = x.s
		checkNode(t, n, x.want)
	}
}

func TestNodeCap(t *testing.T) {
	for _, x := range parts {
		for _, y := range parts {
			n := node()
			n.Cap = api.Vec{Cpu: x.n, Mem: y.n}
			checkNode(t, n, max(x.want, y.want))
		}
	}
}

func TestNodeSets(t *testing.T) {
	for _, x := range sets {
		n := node()
		n.Marks = x.l
		checkNode(t, n, x.want)
		n = node()
		n.Taints = x.l
		checkNode(t, n, x.want)
		for _, y := range sets {
			n.Marks, n.Taints = x.l, y.l
			checkNode(t, n, max(x.want, y.want))
		}
	}
}

func TestNodeOrder(t *testing.T) {
	for faults := range 32 {
		n, want := node(), api.OK
		for i, x := range []struct {
			do   func()
			want api.Errno
		}{
			{func() { n.Name = "" }, api.ErrName},
			{func() { n.Cap.Cpu = most + 1 }, api.ErrArg},
			{func() { n.Cap.Mem = -1 }, api.ErrArg},
			{func() { n.Marks = []string{"a", "a"} }, api.ErrName},
			{func() { n.Taints = []string{"a", "b", "c", "d", "e"} }, api.ErrName},
		} {
			if faults>>i&1 == 1 {
				x.do()
				if want == api.OK {
					want = x.want
				}
			}
		}
		checkNode(t, n, want)
	}
}

func TestGangId(t *testing.T) {
	for _, id := range []int{1, 2, 1000, 999998, 999999} {
		checkGang(t, api.Gang{Id: id, Pods: pods(2)}, 4, api.OK)
	}
	for _, id := range []int{math.MinInt64, -1, 0, 1000000, 1000001, math.MaxInt64} {
		checkGang(t, api.Gang{Id: id, Pods: pods(2)}, 4, api.ErrArg)
	}
}

func TestGangPods(t *testing.T) {
	for n := 1; n <= 8; n++ {
		checkGang(t, api.Gang{Id: 1, Pods: pods(n)}, 4, api.OK)
	}
	for _, n := range []int{9, 10, 16, 1000} {
		checkGang(t, api.Gang{Id: 1, Pods: pods(n)}, 4, api.ErrLong)
	}
	checkGang(t, api.Gang{Id: 1}, 4, api.ErrLong)
	checkGang(t, api.Gang{Id: 1, Pods: []api.Pod{}}, 4, api.ErrLong)
	// Spare room is no pods.
	checkGang(t, api.Gang{Id: 1, Pods: pods(2)[:0]}, 4, api.ErrLong)
	checkGang(t, api.Gang{Id: 1, Pods: pods(20)[:8]}, 4, api.OK)
}

func TestGangShards(t *testing.T) {
	for _, shards := range []int{4, 5, math.MaxInt64} {
		checkGang(t, api.Gang{Id: 1, Pods: pods(4)}, shards, api.OK)
	}
	for _, shards := range []int{3, 2, 1, 0, -1, math.MinInt64} {
		checkGang(t, api.Gang{Id: 1, Pods: pods(4)}, shards, api.ErrArg)
	}
}

// A pod that is refused, at each place of gangs of each size, is refused as by Pod.
func TestGangRefused(t *testing.T) {
	for n := 1; n <= 8; n++ {
		for at := range n {
			for _, x := range []struct {
				do   func(p *api.Pod)
				want api.Errno
			}{
				{func(p *api.Pod) { p.Name = "" }, api.ErrName},
				{func(p *api.Pod) { p.Shard = 0 }, api.ErrArg},
				{func(p *api.Pod) { p.Shard = 5 }, api.ErrArg},
				{func(p *api.Pod) { p.Need.Cpu = -1 }, api.ErrArg},
				{func(p *api.Pod) { p.Need.Mem = most + 1 }, api.ErrArg},
				{func(p *api.Pod) { p.Picks = []string{"b", "a"} }, api.ErrName},
				{func(p *api.Pod) { p.Bears = []string{"9"} }, api.ErrName},
				{func(p *api.Pod) { p.Bears, p.Shard = []string{"9"}, 5 }, api.ErrArg},
				{func(p *api.Pod) { p.Need.Cpu, p.Need.Mem = most, most }, api.OK},
			} {
				l := pods(n)
				x.do(&l[at])
				checkGang(t, api.Gang{Id: 1, Pods: l}, 4, x.want)
			}
		}
	}
}

// Of two pods that are refused, the first one's error is told.
func TestGangFirstRefused(t *testing.T) {
	for i := range 8 {
		for j := range 8 {
			if i == j {
				continue
			}
			l := pods(8)
			l[i].Name, l[j].Shard = "A", 5
			want := api.ErrName
			if j < i {
				want = api.ErrArg
			}
			checkGang(t, api.Gang{Id: 1, Pods: l}, 4, want)
			// The last error that a pod may have, of the first one, is ahead of the first error of the other.
			l = pods(8)
			l[i].Bears, l[j].Need.Cpu = []string{"b", "a"}, -1
			checkGang(t, api.Gang{Id: 1, Pods: l}, 4, want)
		}
	}
}

func TestGangTwice(t *testing.T) {
	for i := range 8 {
		for j := range i {
			l := pods(8)
			l[i].Name = l[j].Name
			checkGang(t, api.Gang{Id: 1, Pods: l}, 4, api.ErrTwice)
			// In one shard, and in all else the same.
			l[i] = l[j]
			checkGang(t, api.Gang{Id: 1, Pods: l}, 4, api.ErrTwice)
		}
	}
	l := pods(2)
	l[1].Name = l[0].Name
	checkGang(t, api.Gang{Id: 1, Pods: l}, 4, api.ErrTwice)
	// Pods that differ in nothing but their names are two.
	checkGang(t, api.Gang{Id: 1, Pods: []api.Pod{{Name: "a", Shard: 1}, {Name: "aa", Shard: 1}}}, 1, api.OK)
	// What is named once is a pod's name alone, not a mark.
	checkGang(t, api.Gang{Id: 1, Pods: []api.Pod{{Name: "a", Shard: 1, Picks: []string{"b"}}, {Name: "b", Shard: 1, Picks: []string{"b"}, Bears: []string{"a"}}}}, 1, api.OK)
}

// A name that is there twice is told behind all that a pod is refused for, wherever that one stands.
func TestGangOrder(t *testing.T) {
	twice := func(n int) []api.Pod {
		l := pods(n)
		l[1].Name = l[0].Name
		return l
	}
	for at := range 8 {
		l := twice(8)
		l[at].Shard = 5
		checkGang(t, api.Gang{Id: 1, Pods: l}, 4, api.ErrArg)
		l = twice(8)
		l[at].Bears = []string{"A"}
		checkGang(t, api.Gang{Id: 1, Pods: l}, 4, api.ErrName)
	}
	same := []api.Pod{{}, {}}
	checkGang(t, api.Gang{Id: 1, Pods: same}, 4, api.ErrName)
	checkGang(t, api.Gang{Id: 0, Pods: same}, 4, api.ErrArg)
	checkGang(t, api.Gang{Id: 0, Pods: twice(2)}, 4, api.ErrArg)
	checkGang(t, api.Gang{Id: 0}, 4, api.ErrArg)
	checkGang(t, api.Gang{Id: 1000000, Pods: pods(9)}, 4, api.ErrArg)
	checkGang(t, api.Gang{Id: 1, Pods: twice(9)}, 4, api.ErrLong)
	checkGang(t, api.Gang{Id: 1, Pods: make([]api.Pod, 9)}, 4, api.ErrLong)
	checkGang(t, api.Gang{}, 0, api.ErrArg)
}

// of makes a gang of pods of these shards; a pod's name tells its place.
func of(shards ...int) api.Gang {
	g := api.Gang{Id: 1}
	for i, s := range shards {
		g.Pods = append(g.Pods, api.Pod{Name: fmt.Sprint("p", i), Shard: s})
	}
	return g
}

func TestShards(t *testing.T) {
	for _, x := range []struct{ in, want []int }{
		{nil, nil}, {[]int{1}, []int{1}}, {[]int{4}, []int{4}}, {[]int{2, 2, 2}, []int{2}},
		{[]int{1, 2, 3, 4}, []int{1, 2, 3, 4}}, {[]int{4, 3, 2, 1}, []int{1, 2, 3, 4}}, {[]int{3, 1, 3, 1}, []int{1, 3}},
		{[]int{2, 1, 1, 2}, []int{1, 2}}, {[]int{4, 1, 4, 4, 2, 1, 1, 4}, []int{1, 2, 4}}, {[]int{1, 10, 2}, []int{1, 2, 10}},
		// Any gang has shards, one that is not allowed, too.
		{[]int{0}, []int{0}}, {[]int{0, -1, 0, 7}, []int{-1, 0, 7}},
		{[]int{math.MaxInt64, math.MinInt64, 0, math.MaxInt64}, []int{math.MinInt64, 0, math.MaxInt64}},
		{[]int{9, 8, 7, 6, 5, 4, 3, 2, 1, 9}, []int{1, 2, 3, 4, 5, 6, 7, 8, 9}},
	} {
		if got := spec.Shards(of(x.in...)); !slices.Equal(got, x.want) {
			t.Errorf("P302: Shards of %v: %v, want %v", x.in, got, x.want)
		}
	}
	if got := spec.Shards(api.Gang{Id: 1, Pods: []api.Pod{}}); len(got) != 0 {
		t.Errorf("P302: Shards of an empty list: %v", got)
	}
	// The id, and what else a pod has, does not count.
	if got := spec.Shards(api.Gang{Id: -5, Pods: []api.Pod{{Shard: 3}, {Shard: 3, Alone: true}, {Name: "A", Shard: 2}}}); !slices.Equal(got, []int{2, 3}) {
		t.Errorf("P302: Shards = %v, want [2 3]", got)
	}
}

func TestSlice(t *testing.T) {
	g := of(3, 1, 3, 1, 4, 3)
	for shard, want := range map[int][]int{3: {0, 2, 5}, 1: {1, 3}, 4: {4}, 2: nil, 0: nil, -1: nil, 5: nil, math.MaxInt64: nil, math.MinInt64: nil} {
		var l []api.Pod
		for _, i := range want {
			l = append(l, g.Pods[i])
		}
		if got := spec.Slice(g, shard); !same(got, l) {
			t.Errorf("P302: Slice(.., %d) = %v, want %v", shard, got, l)
		}
	}
	for _, none := range []api.Gang{{}, {Id: 1}, {Id: 1, Pods: []api.Pod{}}} {
		if got := spec.Slice(none, 0); len(got) != 0 {
			t.Errorf("P302: Slice of no pods: %v", got)
		}
	}
	// Any shard that a pod has, one that may not be, too.
	if got := spec.Slice(of(0, -1, 0), 0); len(got) != 2 || got[0].Name != "p0" || got[1].Name != "p2" {
		t.Errorf("P302: Slice(.., 0) = %v", got)
	}
}

// A pod comes with all that it has, allowed or not.
func TestSliceWhole(t *testing.T) {
	whole := []api.Pod{
		{Name: "a", Shard: 1, Need: api.Vec{Cpu: 3, Mem: 4}, Picks: []string{"gpu", "ssd"}, Bears: []string{"hot"}, Alone: true},
		{Name: "A\xff", Shard: 1, Need: api.Vec{Cpu: -1, Mem: math.MaxInt64}, Picks: []string{"b", "a", "a", "", "\xff", "x"}},
		{Name: "a", Shard: 1, Bears: []string{"9"}},
		{Shard: 1},
	}
	if got := spec.Slice(api.Gang{Id: -1, Pods: whole}, 1); !same(got, whole) {
		t.Errorf("P302: Slice = %#v, want %#v", got, whole)
	}
	if got := spec.Slice(api.Gang{Pods: []api.Pod{{Picks: []string{}, Bears: []string{}}}}, 0); len(got) != 1 || len(got[0].Picks) != 0 || len(got[0].Bears) != 0 {
		t.Errorf("P302: Slice of empty lists: %#v", got)
	}
}

// same tells whether two lists of pods are the same; no list and an empty one are.
func same(a, b []api.Pod) bool {
	return slices.EqualFunc(a, b, func(p, q api.Pod) bool {
		return p.Name == q.Name && p.Shard == q.Shard && p.Need == q.Need && p.Alone == q.Alone && slices.Equal(p.Picks, q.Picks) && slices.Equal(p.Bears, q.Bears)
	})
}

// P303: the slices of a gang's shards hold each pod once, and nothing else; in other shards there is none.
func TestEachPodInOneSlice(t *testing.T) {
	r := rand.New(rand.NewSource(3))
	for range 2000 {
		var in []int
		for range r.Intn(12) {
			in = append(in, r.Intn(7)-1)
		}
		g := of(in...)
		shards := spec.Shards(g)
		seen := map[string]int{}
		for shard := -2; shard <= 7; shard++ {
			last := -1
			l := spec.Slice(g, shard)
			if slices.Contains(shards, shard) != (len(l) > 0) {
				t.Fatalf("P303: of shards %v: Slice(.., %d) = %v, Shards = %v", in, shard, l, shards)
			}
			for _, p := range l {
				at := slices.IndexFunc(g.Pods, func(q api.Pod) bool { return q.Name == p.Name })
				if p.Shard != shard || at <= last {
					t.Fatalf("P303: of shards %v: Slice(.., %d) = %v", in, shard, l)
				}
				last = at
				seen[p.Name]++
			}
		}
		for _, p := range g.Pods {
			if seen[p.Name] != 1 {
				t.Fatalf("P303: of shards %v: pod %s is in %d slices", in, p.Name, seen[p.Name])
			}
		}
		if !slices.IsSorted(shards) || len(slices.Compact(slices.Clone(shards))) != len(shards) {
			t.Fatalf("P302: Shards of %v: %v", in, shards)
		}
	}
}

// roomy is a gang whose lists have spare room, filled, and share one memory.
func roomy() api.Gang {
	marks := []string{"a", "b", "c", "d", "e", "f", "g", "h"}
	l := []api.Pod{
		{Name: "a", Shard: 3, Picks: marks[0:2], Bears: marks[2:4]},
		{Name: "b", Shard: 1, Picks: marks[1:3], Bears: marks[0:0]},
		{Name: "c", Shard: 3, Picks: marks[:0], Bears: marks[1:3]},
		{Name: "d", Shard: 3, Picks: marks[4:5], Bears: marks[4:5]},
		{Name: "spare", Shard: 7, Picks: marks[6:7]}, {Name: "spare", Shard: 3, Bears: marks[7:8]},
	}
	return api.Gang{Id: 1, Pods: l[:4]}
}

// spread is a gang with its lists' spare room, so that all of it can be held against another one.
func spread(g api.Gang) []api.Pod {
	l := slices.Clone(g.Pods[:cap(g.Pods)])
	for i := range l {
		l[i].Picks = slices.Clone(l[i].Picks[:cap(l[i].Picks)])
		l[i].Bears = slices.Clone(l[i].Bears[:cap(l[i].Bears)])
	}
	return l
}

// P2: what is handed in is as it was, its spare room too.
func TestHandedInIsAsItWas(t *testing.T) {
	g := roomy()
	was := spread(g)
	spec.Gang(g, 4)
	spec.Gang(g, 2)
	spec.Pod(g.Pods[0], 4)
	spec.Node(api.Node{Name: "n", Marks: g.Pods[0].Picks, Taints: g.Pods[0].Bears})
	spec.Shards(g)
	for shard := range 8 {
		spec.Slice(g, shard)
	}
	if !reflect.DeepEqual(spread(g), was) {
		t.Errorf("P2: handed in %#v, then %#v", was, spread(g))
	}
}

// scribble writes over all of an answer, its spare room too.
func scribble(l []api.Pod) {
	l = l[:cap(l)]
	for i := range l {
		for _, m := range [][]string{l[i].Picks, l[i].Bears} {
			m = m[:cap(m)]
			for j := range m {
				m[j] = "scribble"
			}
		}
		l[i] = api.Pod{Name: "scribble"}
	}
}

// P2: an answer is new memory: writing over it touches neither what was handed in nor another answer.
func TestAnswersAreNew(t *testing.T) {
	g := roomy()
	was := spread(g)
	one, other := spec.Slice(g, 3), spec.Slice(g, 3)
	want := spec.Slice(roomy(), 3)
	scribble(one)
	if !reflect.DeepEqual(spread(g), was) {
		t.Errorf("P2: Slice shares memory with its gang: %#v", g)
	}
	if !same(other, want) {
		t.Errorf("P2: two answers of Slice share memory: %#v", other)
	}
	scribble(spec.Slice(g, 1))
	scribble(spec.Slice(g, 2))
	if !reflect.DeepEqual(spread(g), was) {
		t.Errorf("P2: Slice shares memory with its gang: %#v", g)
	}
	a, b := spec.Shards(g), spec.Shards(g)
	for i := range a[:cap(a)] {
		a[:cap(a)][i] = -9
	}
	if !slices.Equal(b, []int{1, 3}) || !slices.Equal(spec.Shards(g), []int{1, 3}) {
		t.Errorf("P2: two answers of Shards share memory: %v", b)
	}
}

// P2: an answer is not what was handed in, kept: writing over that later on does not touch the answer.
func TestNothingIsKept(t *testing.T) {
	g := roomy()
	l, shards := spec.Slice(g, 3), spec.Shards(g)
	scribble(g.Pods)
	if !same(l, spec.Slice(roomy(), 3)) || !slices.Equal(shards, []int{1, 3}) {
		t.Errorf("P2: what was handed in was kept: %#v, %v", l, shards)
	}
}

// P2: no two lists of one answer share memory, spare room counted.
func TestListsOfOneAnswer(t *testing.T) {
	lists := func(l []api.Pod) []*[]string {
		var all []*[]string
		for i := range l {
			all = append(all, &l[i].Picks, &l[i].Bears)
		}
		return all
	}
	for i := range lists(spec.Slice(roomy(), 3)) {
		l, want := spec.Slice(roomy(), 3), spec.Slice(roomy(), 3)
		m := lists(l)[i]
		room := (*m)[:cap(*m)]
		for j := range room {
			room[j] = "scribble"
		}
		*m, *lists(want)[i] = nil, nil
		if !same(l, want) {
			t.Errorf("P2: list %d of an answer shares memory with another one: %#v", i, l)
		}
	}
}

// P3: the same calls answer the same.
func TestSameAnswers(t *testing.T) {
	g := roomy()
	for range 50 {
		if spec.Gang(g, 4) != spec.Gang(roomy(), 4) || !slices.Equal(spec.Shards(g), []int{1, 3}) || !same(spec.Slice(g, 3), spec.Slice(roomy(), 3)) {
			t.Fatal("P3: other answers")
		}
	}
}

// P1: a gang of any size is gone through in the time that its size asks for.
func TestManyPods(t *testing.T) {
	const n = 300000
	g := api.Gang{Id: 1}
	for i := range n {
		g.Pods = append(g.Pods, api.Pod{Name: "a", Shard: (i * 7919) % n})
	}
	checkMany := func(ok bool) {
		t.Helper()
		if !ok {
			t.Error("P302: of many pods")
		}
	}
	if err := spec.Gang(g, n); err != api.ErrLong {
		t.Errorf("P301: Gang of many pods: %v", err)
	}
	l := spec.Shards(g)
	checkMany(len(l) == n && l[0] == 0 && l[n-1] == n-1 && slices.IsSorted(l))
	checkMany(len(spec.Slice(g, 7919)) == 1)
	for i := range g.Pods {
		g.Pods[i].Shard = 2
	}
	checkMany(slices.Equal(spec.Shards(g), []int{2}) && len(spec.Slice(g, 2)) == n && len(spec.Slice(g, 1)) == 0)
}
