package line_test

import (
	"fmt"
	"math"
	"math/rand"
	"reflect"
	"regexp"
	"slices"
	"strings"
	"testing"
	"unsafe"

	"joinery/api"
	"joinery/line"
)

const most = 1099511627776 // 2^40, written out so that it is not told by the program's own number

// kinds are all there are.
var kinds = []int{api.RNode, api.RGone, api.RPrepare, api.RCommit, api.RAbort, api.RRelease, api.RGang}

// record is one of that kind that is allowed, with all that its kind can have.
func record(kind int) api.Record {
	r := api.Record{Kind: kind}
	switch kind {
	case api.RNode:
		r.Node = api.Node{Name: "n", Cap: api.Vec{Cpu: 3, Mem: 4}, Marks: []string{"gpu", "ssd"}, Taints: []string{"hot"}, Closed: true}
	case api.RGone:
		r.Node.Name = "n"
	case api.RPrepare:
		r.Gang, r.Peers, r.Places = 7, []int{1, 3}, places(3)
	case api.RGang:
		r.Gang, r.Peers = 7, []int{1, 3}
	default:
		r.Gang = 7
	}
	return r
}

// places are n of them, of different pods.
func places(n int) []api.Place {
	var l []api.Place
	for i := range n {
		l = append(l, api.Place{Pod: fmt.Sprint("p", i), Node: fmt.Sprint("n", i/2), Need: api.Vec{Cpu: i, Mem: 2 * i}, Alone: i%2 == 1})
	}
	return l
}

// prepared is a record of those places.
func prepared(l ...api.Place) api.Record {
	return api.Record{Kind: api.RPrepare, Gang: 7, Peers: []int{1, 3}, Places: l}
}

// same tells whether two records are the same; no list and an empty one are.
func same(a, b api.Record) bool {
	return a.Kind == b.Kind && a.Gang == b.Gang && slices.Equal(a.Peers, b.Peers) && slices.Equal(a.Places, b.Places) &&
		a.Node.Name == b.Node.Name && a.Node.Cap == b.Node.Cap && slices.Equal(a.Node.Marks, b.Node.Marks) &&
		slices.Equal(a.Node.Taints, b.Node.Taints) && a.Node.Closed == b.Node.Closed
}

func check(t *testing.T, r api.Record, want api.Errno) {
	t.Helper()
	if got := line.Check(r); got != want {
		t.Errorf("P401: Check(%#v) = %v, want %v", r, got, want)
	}
	if want == api.OK {
		readAgain(t, r)
	}
}

// readAgain asks that r, one that Check allows, is read of its line as it was.
func readAgain(t *testing.T, r api.Record) {
	t.Helper()
	s := line.Text(r)
	if got, err := line.Parse(s); err != api.OK || !same(got, r) {
		t.Errorf("P402: %#v is written %q, read %#v, %v", r, s, got, err)
	}
}

// parse asks for s's error, that nothing is beside it, and that a line that is read is the one that is written.
func parse(t *testing.T, s string, want api.Errno) {
	t.Helper()
	r, err := line.Parse(s)
	if err != want {
		t.Errorf("P401: Parse(%q) = %v, want %v", s, err, want)
	}
	if err != api.OK && !same(r, api.Record{}) {
		t.Errorf("P4: Parse(%q) answers %#v beside %v", s, r, err)
	}
	if err == api.OK {
		writtenSo(t, s, r)
	}
}

func writtenSo(t *testing.T, s string, r api.Record) {
	t.Helper()
	if e := line.Check(r); e != api.OK {
		t.Errorf("P401: Parse(%q) answers %#v, which Check refuses: %v", s, r, e)
	}
	if got := line.Text(r); got != s {
		t.Errorf("P402: Parse(%q) answers %#v, which is written %q", s, r, got)
	}
}

// names, with whether they are such.
var names = []struct {
	s    string
	want api.Errno
}{
	{"a", api.OK}, {"z9", api.OK}, {"αω", api.OK}, {"a1234567", api.OK}, {"ωωωωωωωω", api.OK},
	{"A", api.ErrName}, {"9", api.ErrName}, {"9a", api.ErrName}, {"a12345678", api.ErrName}, {"ωωωωωωωωω", api.ErrName},
	{"a\n", api.ErrName}, {"a\tb", api.ErrName}, {"\x00", api.ErrName}, {"a\u00a0b", api.ErrName}, {"Ω", api.ErrName}, {"-", api.ErrName}, {"a-b", api.ErrName},
	{"\xff", api.ErrName}, {"a\xce", api.ErrName}, {"\xb1a", api.ErrName}, {"\xe2\x82", api.ErrName}, {"\xf0\x9f\x98\x80", api.ErrName}, {"\ufffd", api.ErrName}, {"\xc0\xa0", api.ErrName},
	{strings.Repeat("a", 100000), api.ErrName},
}

// signs are what no name of a line has.
const signs = " :,+~!>@"

// written are records of each kind, and their lines.
var written = []struct {
	r api.Record
	s string
}{
	{api.Record{Kind: api.RNode, Node: api.Node{Name: "α1", Cap: api.Vec{Cpu: 10, Mem: 20}, Marks: []string{"a", "b"}, Taints: []string{"ω"}, Closed: true}}, "node α1:10,20+a+b~ω!"},
	{api.Record{Kind: api.RNode, Node: api.Node{Name: "n"}}, "node n:0,0"},
	{api.Record{Kind: api.RNode, Node: api.Node{Name: "n", Closed: true}}, "node n:0,0!"},
	{api.Record{Kind: api.RNode, Node: api.Node{Name: "n", Marks: []string{"a"}}}, "node n:0,0+a"},
	{api.Record{Kind: api.RNode, Node: api.Node{Name: "n", Taints: []string{"a"}}}, "node n:0,0~a"},
	{api.Record{Kind: api.RNode, Node: api.Node{Name: "n", Marks: []string{"a"}, Closed: true}}, "node n:0,0+a!"},
	{api.Record{Kind: api.RNode, Node: api.Node{Name: "n", Taints: []string{"a"}, Closed: true}}, "node n:0,0~a!"},
	{api.Record{Kind: api.RNode, Node: api.Node{Name: "n", Marks: []string{"a"}, Taints: []string{"a"}}}, "node n:0,0+a~a"},
	{api.Record{Kind: api.RNode, Node: api.Node{Name: "ωωωωωωωω", Cap: api.Vec{Cpu: most, Mem: most}, Marks: []string{"a", "b", "c", "d"}, Taints: []string{"e", "f", "g", "α"}}}, "node ωωωωωωωω:1099511627776,1099511627776+a+b+c+d~e~f~g~α"},
	{api.Record{Kind: api.RNode, Node: api.Node{Name: "node", Marks: []string{"gone"}}}, "node node:0,0+gone"},
	{api.Record{Kind: api.RGone, Node: api.Node{Name: "n"}}, "gone n"},
	{api.Record{Kind: api.RGone, Node: api.Node{Name: "gone"}}, "gone gone"},
	{api.Record{Kind: api.RPrepare, Gang: 7, Peers: []int{1, 3}, Places: []api.Place{{Pod: "p", Node: "n", Need: api.Vec{Cpu: 1, Mem: 2}, Alone: true}, {Pod: "q", Node: "n"}}}, "prepare 7 1,3 p>n:1,2! q>n:0,0"},
	{api.Record{Kind: api.RPrepare, Gang: 1, Peers: []int{2}, Places: []api.Place{{Pod: "n", Node: "n", Need: api.Vec{Cpu: most, Mem: 0}}}}, "prepare 1 2 n>n:1099511627776,0"},
	{api.Record{Kind: api.RPrepare, Gang: 1, Peers: []int{1, 2, 3, 4}, Places: []api.Place{{Pod: "z", Node: "n", Alone: true}, {Pod: "a", Node: "α"}, {Pod: "b", Node: "n", Need: api.Vec{Mem: 10}, Alone: true}}}, "prepare 1 1,2,3,4 z>n:0,0! a>α:0,0 b>n:0,10!"},
	{api.Record{Kind: api.RCommit, Gang: 999999}, "commit 999999"},
	{api.Record{Kind: api.RAbort, Gang: 1}, "abort 1"},
	{api.Record{Kind: api.RRelease, Gang: 20}, "release 20"},
	{api.Record{Kind: api.RGang, Gang: 20, Peers: []int{4}}, "gang 20 4"},
	{api.Record{Kind: api.RGang, Gang: 100000, Peers: []int{1, 2, 3, 4}}, "gang 100000 1,2,3,4"},
}

func TestEachKind(t *testing.T) {
	for _, x := range written {
		check(t, x.r, api.OK)
		if got := line.Text(x.r); got != x.s {
			t.Errorf("P401: Text(%#v) = %q, want %q", x.r, got, x.s)
		}
		if got, err := line.Parse(x.s); err != api.OK || !same(got, x.r) {
			t.Errorf("P401: Parse(%q) = %#v, %v, want %#v", x.s, got, err, x.r)
		}
	}
	for _, kind := range kinds {
		check(t, record(kind), api.OK)
	}
}

// The document's example.
func TestNoText(t *testing.T) {
	parse(t, "", api.ErrForm)
}

func TestCheckKind(t *testing.T) {
	for _, kind := range []int{math.MinInt64, -1, 0, 8, 9, 255, 256 + api.RCommit, math.MaxInt64} {
		for _, from := range kinds {
			r := record(from)
			r.Kind = kind
			check(t, r, api.ErrArg)
		}
		check(t, api.Record{Kind: kind}, api.ErrArg)
	}
}

// fields are all of a record, each by itself.
var fields = []struct {
	name string
	put  func(r *api.Record)
	has  []int
}{
	{"Gang", func(r *api.Record) { r.Gang = 1 }, []int{api.RPrepare, api.RCommit, api.RAbort, api.RRelease, api.RGang}},
	{"Gang below 0", func(r *api.Record) { r.Gang = -1 }, []int{api.RPrepare, api.RCommit, api.RAbort, api.RRelease, api.RGang}},
	{"Peers", func(r *api.Record) { r.Peers = []int{1} }, []int{api.RPrepare, api.RGang}},
	{"Peers 0", func(r *api.Record) { r.Peers = []int{0} }, []int{api.RPrepare, api.RGang}},
	{"Places", func(r *api.Record) { r.Places = places(1) }, []int{api.RPrepare}},
	{"Places empty", func(r *api.Record) { r.Places = make([]api.Place, 1) }, []int{api.RPrepare}},
	{"Name", func(r *api.Record) { r.Node.Name = "n" }, []int{api.RNode, api.RGone}},
	{"Name none", func(r *api.Record) { r.Node.Name = "\xff" }, []int{api.RNode, api.RGone}},
	{"Cpu", func(r *api.Record) { r.Node.Cap.Cpu = 1 }, []int{api.RNode}},
	{"Mem", func(r *api.Record) { r.Node.Cap.Mem = -1 }, []int{api.RNode}},
	{"Marks", func(r *api.Record) { r.Node.Marks = []string{"a"} }, []int{api.RNode}},
	{"Marks empty", func(r *api.Record) { r.Node.Marks = []string{""} }, []int{api.RNode}},
	{"Taints", func(r *api.Record) { r.Node.Taints = []string{"a"} }, []int{api.RNode}},
	{"Taints empty", func(r *api.Record) { r.Node.Taints = []string{""} }, []int{api.RNode}},
	{"Closed", func(r *api.Record) { r.Node.Closed = true }, []int{api.RNode}},
}

// What a kind has not, each field of it, is refused, ahead of all else that is wrong.
func TestCheckHasNot(t *testing.T) {
	for _, kind := range kinds {
		for _, f := range fields {
			if slices.Contains(f.has, kind) {
				continue
			}
			r := record(kind)
			f.put(&r)
			if got := line.Check(r); got != api.ErrArg {
				t.Errorf("P401: Check of kind %d with %s = %v, want %v", kind, f.name, got, api.ErrArg)
			}
			// A name that is none, and no places, would be told by another error.
			r = api.Record{Kind: kind, Gang: r.Gang, Peers: r.Peers}
			f.put(&r)
			check(t, r, api.ErrArg)
		}
	}
}

// No list and an empty one are the same: an empty one is nothing that a kind has not.
func TestCheckEmptyLists(t *testing.T) {
	for _, kind := range kinds {
		r := record(kind)
		if len(r.Peers) == 0 {
			r.Peers = []int{}
		}
		if len(r.Places) == 0 {
			r.Places = make([]api.Place, 0, 3)
		}
		if len(r.Node.Marks) == 0 {
			r.Node.Marks, r.Node.Taints = []string{}, make([]string, 0, 3)
		}
		check(t, r, api.OK)
	}
	check(t, api.Record{Kind: api.RNode, Node: api.Node{Name: "n", Marks: []string{}, Taints: []string{}}}, api.OK)
	check(t, api.Record{Kind: api.RGang, Gang: 1, Peers: []int{}}, api.ErrArg)
	check(t, api.Record{Kind: api.RPrepare, Gang: 1, Peers: []int{1}, Places: []api.Place{}}, api.ErrLong)
	check(t, api.Record{Kind: api.RPrepare, Gang: 1, Peers: []int{1}, Places: places(2)[:0]}, api.ErrLong)
}

func TestCheckNode(t *testing.T) {
	for _, x := range []struct {
		n    api.Node
		want api.Errno
	}{
		{api.Node{}, api.ErrName}, {api.Node{Name: "N"}, api.ErrName}, {api.Node{Name: "n"}, api.OK},
		{api.Node{Name: "n", Cap: api.Vec{Cpu: -1}}, api.ErrArg}, {api.Node{Name: "n", Cap: api.Vec{Mem: -1}}, api.ErrArg},
		{api.Node{Name: "n", Cap: api.Vec{Cpu: most}}, api.OK}, {api.Node{Name: "n", Cap: api.Vec{Mem: most}}, api.OK},
		{api.Node{Name: "n", Cap: api.Vec{Cpu: most + 1}}, api.ErrArg}, {api.Node{Name: "n", Cap: api.Vec{Mem: most + 1}}, api.ErrArg},
		{api.Node{Name: "n", Marks: []string{"a", "b", "c", "d"}}, api.OK}, {api.Node{Name: "n", Marks: []string{"a", "b", "c", "d", "e"}}, api.ErrName},
		{api.Node{Name: "n", Marks: []string{"b", "a"}}, api.ErrName}, {api.Node{Name: "n", Marks: []string{"a", "a"}}, api.ErrName}, {api.Node{Name: "n", Marks: []string{""}}, api.ErrName},
		{api.Node{Name: "n", Taints: []string{"a", "b", "c", "d"}}, api.OK}, {api.Node{Name: "n", Taints: []string{"a", "b", "c", "d", "e"}}, api.ErrName},
		{api.Node{Name: "n", Taints: []string{"b", "a"}}, api.ErrName}, {api.Node{Name: "n", Taints: []string{"a+b"}}, api.ErrName},
		// In their order: the name, the numbers, the sets.
		{api.Node{Name: "N", Cap: api.Vec{Cpu: -1}, Marks: []string{"9"}}, api.ErrName}, {api.Node{Name: "n", Cap: api.Vec{Cpu: -1}, Marks: []string{"9"}}, api.ErrArg},
		{api.Node{Name: "n", Cap: api.Vec{Mem: most + 1}, Taints: []string{"9"}}, api.ErrArg},
	} {
		check(t, api.Record{Kind: api.RNode, Node: x.n}, x.want)
	}
}

func TestCheckGone(t *testing.T) {
	for _, x := range names {
		check(t, api.Record{Kind: api.RGone, Node: api.Node{Name: x.s}}, x.want)
	}
	for _, s := range []string{"", " ", "a b", "a:b", "n:0,0", "a>b"} {
		check(t, api.Record{Kind: api.RGone, Node: api.Node{Name: s}}, api.ErrName)
	}
}

func TestCheckGang(t *testing.T) {
	for _, kind := range []int{api.RPrepare, api.RCommit, api.RAbort, api.RRelease, api.RGang} {
		for _, id := range []int{1, 2, 10, 99999, 100000, 999998, 999999} {
			r := record(kind)
			r.Gang = id
			check(t, r, api.OK)
		}
		for _, id := range []int{math.MinInt64, -999999, -1, 0, 1000000, 1000001, math.MaxInt64} {
			r := record(kind)
			r.Gang = id
			check(t, r, api.ErrArg)
		}
	}
}

// Every list of at most five numbers from -1 to 6, and some longer ones.
func TestCheckPeers(t *testing.T) {
	try := func(l []int) {
		t.Helper()
		want := api.OK
		if len(l) == 0 || len(l) > 4 {
			want = api.ErrArg
		}
		for i, p := range l {
			if p < 1 || p > 4 || i > 0 && l[i-1] >= p {
				want = api.ErrArg
			}
		}
		for _, kind := range []int{api.RPrepare, api.RGang} {
			r := record(kind)
			r.Peers = l
			check(t, r, want)
		}
	}
	lists := [][]int{nil}
	for range 5 {
		var longer [][]int
		for _, l := range lists {
			try(l)
			for p := -1; p <= 6; p++ {
				longer = append(longer, append(slices.Clone(l), p))
			}
		}
		lists = longer
	}
	for _, l := range [][]int{{1, 2, 3, 4, 5}, {0, 1, 2, 3, 4}, {1, 1, 2, 3, 4}, {1, 2, 3, 4, 4}, {1, 2, 3, 4, 1}, {1, 2, 3, 4, 5, 6}, {math.MaxInt64}, {math.MinInt64}, {1, math.MaxInt64}, {math.MinInt64, 1}, make([]int, 1000)} {
		try(l)
	}
}

func TestCheckPlaces(t *testing.T) {
	check(t, prepared(), api.ErrLong)
	for n := 1; n <= 8; n++ {
		check(t, prepared(places(n)...), api.OK)
	}
	for _, n := range []int{9, 10, 1000} {
		check(t, prepared(places(n)...), api.ErrLong)
	}
	// Spare room is no places.
	check(t, prepared(places(20)[:8]...), api.OK)
	// Places of one node, in no order of names, are as they may be.
	check(t, prepared(api.Place{Pod: "z", Node: "n"}, api.Place{Pod: "a", Node: "n"}, api.Place{Pod: "n", Node: "z"}), api.OK)
}

func TestCheckPlaceNames(t *testing.T) {
	for _, x := range names {
		check(t, prepared(api.Place{Pod: x.s, Node: "n"}), x.want)
		check(t, prepared(api.Place{Pod: "p", Node: x.s}), x.want)
		check(t, prepared(api.Place{Pod: x.s, Node: x.s}), x.want)
	}
	check(t, prepared(api.Place{Pod: "p"}), api.ErrName)
	check(t, prepared(api.Place{Node: "n"}), api.ErrName)
	check(t, prepared(api.Place{}), api.ErrName)
}

func TestCheckPlaceNeed(t *testing.T) {
	parts := map[int]api.Errno{0: api.OK, 1: api.OK, most - 1: api.OK, most: api.OK,
		-1: api.ErrArg, most + 1: api.ErrArg, -most: api.ErrArg, math.MaxInt64: api.ErrArg, math.MinInt64: api.ErrArg}
	for cpu, x := range parts {
		for mem, y := range parts {
			check(t, prepared(api.Place{Pod: "p", Node: "n", Need: api.Vec{Cpu: cpu, Mem: mem}}), max(x, y))
		}
	}
}

// A place that is refused, at each place of lists of each length.
func TestCheckRefusedPlace(t *testing.T) {
	for n := 1; n <= 8; n++ {
		for at := range n {
			for _, x := range []struct {
				do   func(p *api.Place)
				want api.Errno
			}{
				{func(p *api.Place) { p.Pod = "P" }, api.ErrName},
				{func(p *api.Place) { p.Node = "" }, api.ErrName},
				{func(p *api.Place) { p.Need.Cpu = -1 }, api.ErrArg},
				{func(p *api.Place) { p.Need.Mem = most + 1 }, api.ErrArg},
				{func(p *api.Place) { p.Node, p.Need.Mem = "N", -1 }, api.ErrName},
				{func(p *api.Place) { p.Pod, p.Need.Cpu = "9", -1 }, api.ErrName},
				{func(p *api.Place) { p.Need.Cpu, p.Need.Mem = most, most }, api.OK},
			} {
				l := places(n)
				x.do(&l[at])
				check(t, prepared(l...), x.want)
			}
		}
	}
}

// Of two places that are refused, the first one's error is told; of two of one pod, that is told behind all of these.
func TestCheckFirstPlace(t *testing.T) {
	for i := range 8 {
		for j := range 8 {
			if i == j {
				continue
			}
			want := api.ErrName
			if j < i {
				want = api.ErrArg
			}
			l := places(8)
			l[i].Node, l[j].Need.Mem = "N", -1
			check(t, prepared(l...), want)
			l = places(8)
			l[i].Pod, l[j].Need.Cpu = "", most+1
			check(t, prepared(l...), want)
			l = places(8)
			l[i].Pod = l[j].Pod
			check(t, prepared(l...), api.ErrTwice)
			for k := range 8 {
				m := slices.Clone(l)
				m[k].Need.Mem = -1
				check(t, prepared(m...), api.ErrArg)
				m = slices.Clone(l)
				m[k].Node = "N"
				check(t, prepared(m...), api.ErrName)
			}
		}
	}
	p := api.Place{Pod: "p", Node: "n"}
	check(t, prepared(p, p), api.ErrTwice)
	check(t, prepared(p, api.Place{Pod: "p", Node: "m", Alone: true}), api.ErrTwice)
	check(t, prepared(p, p, api.Place{}), api.ErrName)
	check(t, prepared(api.Place{}, api.Place{}), api.ErrName)
}

// Every choice of faults: the first one in the promise's order is told.
func TestCheckOrder(t *testing.T) {
	for faults := range 64 {
		r, want := record(api.RPrepare), api.OK
		for i, x := range []struct {
			do   func()
			want api.Errno
		}{
			{func() { r.Node.Closed = true }, api.ErrArg},
			{func() { r.Gang = 0 }, api.ErrArg},
			{func() { r.Peers = []int{3, 1} }, api.ErrArg},
			{func() { r.Places = append(r.Places, r.Places...); r.Places = append(r.Places, r.Places...) }, api.ErrLong},
			{func() { r.Places[0].Need.Cpu = -1 }, api.ErrArg},
			{func() { r.Places[1].Pod = r.Places[2].Pod }, api.ErrTwice},
		} {
			if faults>>i&1 == 1 {
				x.do()
				if want == api.OK {
					want = x.want
				}
			}
		}
		check(t, r, want)
	}
	check(t, api.Record{Kind: api.RPrepare, Gang: 1}, api.ErrArg)
	check(t, api.Record{Kind: api.RPrepare, Peers: []int{1}}, api.ErrArg)
	check(t, api.Record{Kind: api.RPrepare, Gang: 1, Peers: []int{1}}, api.ErrLong)
	check(t, api.Record{Kind: api.RGone}, api.ErrName)
	check(t, api.Record{Kind: api.RGone, Gang: 1}, api.ErrArg)
	check(t, api.Record{Kind: api.RNode}, api.ErrName)
	check(t, api.Record{Kind: api.RNode, Peers: []int{1}}, api.ErrArg)
}

// Text of a record that is not allowed ends, whatever it answers.
func TestTextOfAny(t *testing.T) {
	for _, kind := range append([]int{math.MinInt64, -1, 0, 8, math.MaxInt64}, kinds...) {
		for _, from := range kinds {
			r := record(from)
			r.Kind = kind
			line.Text(r)
		}
		line.Text(api.Record{Kind: kind})
		line.Text(api.Record{Kind: kind, Gang: math.MinInt64, Peers: []int{math.MaxInt64, -1}, Places: make([]api.Place, 9), Node: api.Node{Name: "\xff", Cap: api.Vec{Cpu: -1, Mem: math.MinInt64}, Marks: make([]string, 9), Taints: []string{"\xff"}}})
	}
}

// numbers as they may stand in a line, with whether they are such in form.
var numbers = []struct {
	s    string
	form bool
}{
	{"0", true}, {"1", true}, {"9", true}, {"10", true}, {"999999", true}, {"1000000", true}, {"1099511627776", true}, {"1099511627777", true},
	{"99999999999999", true}, {"100000000000000", true}, {"999999999999999", true},
	{"1000000000000000", false}, {"9999999999999999", false}, {"9223372036854775807", false}, {"18446744073709551617", false}, {"10000000000000000000000000000000000000001", false},
	{"00", false}, {"01", false}, {"00000000000001", false}, {"000000000000001", false}, {"0000000000000001", false}, {"007", false},
	{"", false}, {"-1", false}, {"-0", false}, {"1.0", false}, {"1e3", false}, {"0x1", false}, {"1_0", false}, {"x", false}, {"1x", false}, {"x1", false},
	{"١", false}, {"１", false}, {"1\n", false}, {"\t1", false}, {"1\x00", false}, {"\xff", false}, {"1\xff", false}, {"/", false}, {";", false}, {"1/", false}, {"\xb1", false},
}

func TestParseNumbers(t *testing.T) {
	for _, x := range numbers {
		for _, y := range []struct{ s, what string }{
			{"commit " + x.s, "gang"}, {"abort " + x.s, "gang"}, {"release " + x.s, "gang"}, {"gang " + x.s + " 1", "gang"}, {"prepare " + x.s + " 1 p>n:0,0", "gang"},
			{"gang 1 " + x.s, "peer"}, {"prepare 1 " + x.s + " p>n:0,0", "peer"},
			{"node n:" + x.s + ",0", "part"}, {"node n:0," + x.s, "part"}, {"node n:0," + x.s + "+a!", "part"},
			{"prepare 1 1 p>n:" + x.s + ",0", "part"}, {"prepare 1 1 p>n:0," + x.s + "!", "part"}, {"prepare 1 1 p>n:0,0 q>n:" + x.s + ",0", "part"},
		} {
			parse(t, y.s, wantNumber(x.s, x.form, y.what))
		}
	}
}

// wantNumber is the error of a line in which that number stands.
func wantNumber(s string, form bool, what string) api.Errno {
	if !form {
		return api.ErrForm
	}
	var n int
	fmt.Sscan(s, &n)
	low, high := 1, 999999
	switch what {
	case "peer":
		high = 4
	case "part":
		low, high = 0, most
	}
	if n < low || n > high {
		return api.ErrArg
	}
	return api.OK
}

// holes are lines with a name at %s.
var holes = []string{"gone %s", "node %s:0,0", "node n:0,0+%s", "node n:0,0~%s!", "node n:0,0+%s~a", "node n:0,0+a0+%s", "prepare 1 1 %s>n:0,0", "prepare 1 1 p>%s:0,0", "prepare 1 1 p>n:0,0! q>%s:1,2!", "prepare 1 1 p>n:0,0 %s>n:1,2!"}

func TestParseNames(t *testing.T) {
	for _, hole := range holes {
		for _, x := range names {
			if x.s == "a" && strings.Contains(hole, "a0") {
				continue // there it does not rise
			}
			parse(t, strings.Replace(hole, "%s", x.s, 1), x.want)
		}
		parse(t, strings.Replace(hole, "%s", "", 1), api.ErrForm)
		for _, sign := range signs {
			for _, s := range []string{"a%cb", "%ca", "%c", "a%c", "a%c%cb", "α%cω", "\xff%c\xff", "\xce%ca", "\xe2\x82%c"} {
				text := strings.Replace(hole, "%s", strings.ReplaceAll(s, "%c", string(sign)), 1)
				parse(t, text, formed(text))
			}
		}
		// A blank of another script, and what looks like a sign, are bytes like all others.
		for _, s := range []string{"a\u00a0b", "a\u2003b", "a：b", "a，b", "a\nb", "a#b", "a;b", "a*b", "a-b", "a?b", "a=b", "a\x1fb", "a\x7fb"} {
			parse(t, strings.Replace(hole, "%s", s, 1), api.ErrName)
		}
	}
}

// form is the document's table as an expression.
var form = func() *regexp.Regexp {
	name, number := `[^ :,+~!>@]+`, `(0|[1-9][0-9]{0,14})`
	vec := `:` + number + `,` + number
	peers := number + `(,` + number + `)*`
	node := name + vec + `(\+` + name + `)*(~` + name + `)*!?`
	place := name + `>` + name + vec + `!?`
	return regexp.MustCompile(`^(?s:node ` + node + `|gone ` + name + `|prepare ` + number + ` ` + peers + `( ` + place + `)*|(commit|abort|release) ` + number + `|gang ` + number + ` ` + peers + `)$`)
}()

// formed is the error that a text has: by its form, or, if it is a line in form, by what Check says of its record.
func formed(s string) api.Errno {
	if !form.MatchString(s) {
		return api.ErrForm
	}
	return line.Check(torn(s))
}

// torn is the record of a line in form, allowed or not, taken apart by other means than the program's.
func torn(s string) api.Record {
	words := strings.Split(s, " ")
	r := api.Record{Kind: map[string]int{"node": 1, "gone": 2, "prepare": 3, "commit": 4, "abort": 5, "release": 6, "gang": 7}[words[0]]}
	switch words[0] {
	case "node":
		r.Node = tornNode(words[1])
		return r
	case "gone":
		r.Node.Name = words[1]
		return r
	}
	fmt.Sscan(words[1], &r.Gang)
	if len(words) > 2 {
		for _, p := range strings.Split(words[2], ",") {
			var n int
			fmt.Sscan(p, &n)
			r.Peers = append(r.Peers, n)
		}
	}
	for _, w := range words[min(3, len(words)):] {
		pod, node, _ := strings.Cut(w, ">")
		n := tornNode(node)
		r.Places = append(r.Places, api.Place{Pod: pod, Node: n.Name, Need: n.Cap, Alone: n.Closed})
	}
	return r
}

func tornNode(s string) api.Node {
	var n api.Node
	s, n.Closed = strings.CutSuffix(s, "!")
	l := strings.Split(s, "~")
	n.Taints = l[1:]
	l = strings.Split(l[0], "+")
	n.Marks = l[1:]
	name, numbers, _ := strings.Cut(l[0], ":")
	n.Name = name
	fmt.Sscanf(numbers, "%d,%d", &n.Cap.Cpu, &n.Cap.Mem)
	return n
}

func TestParseBlanks(t *testing.T) {
	for _, x := range written {
		parse(t, x.s, api.OK)
		for _, blank := range []string{" ", "  ", "\t", "\n", "\r\n", "\u00a0"} {
			parse(t, blank+x.s, api.ErrForm)
			if blank[0] == ' ' {
				parse(t, x.s+blank, api.ErrForm)
			}
			for at := range x.s {
				if x.s[at] == ' ' {
					parse(t, x.s[:at]+blank+x.s[at:], api.ErrForm)
					if blank != " " {
						text := x.s[:at] + blank + x.s[at+1:]
						parse(t, text, formed(text))
					}
				}
			}
		}
	}
	// What is behind a name is of the name; what is behind a number, or a sign, is no line.
	for s, want := range map[string]api.Errno{"gone n\n": api.ErrName, "gone n\r": api.ErrName, "gone \tn": api.ErrName, "node n:0,0+a\n": api.ErrName, "commit 1\n": api.ErrForm, "node n:0,0\n": api.ErrForm, "node n:0,0!\n": api.ErrForm,
		"gang 1 1\n": api.ErrForm, "gang 1 1, 2": api.ErrForm, "gang 1 1 ,2": api.ErrForm, "node n :0,0": api.ErrForm, "node n: 0,0": api.ErrForm, "node n:0 ,0": api.ErrForm, "node n:0,0 !": api.ErrForm, "node n:0,0 +a": api.ErrForm, "prepare 1 1 p >n:0,0": api.ErrForm, "prepare 1 1 p> n:0,0": api.ErrForm, "prepare 1 1 p>n:0,0 !": api.ErrForm} {
		parse(t, s, want)
	}
}

// A part that is left out, put twice, in another order.
func TestParseParts(t *testing.T) {
	for s, want := range map[string]api.Errno{
		" ": api.ErrForm, "node": api.ErrForm, "node ": api.ErrForm, "node n": api.ErrForm, "node n:": api.ErrForm, "node n:0": api.ErrForm, "node n:0,": api.ErrForm, "node n:,0": api.ErrForm, "node n:,": api.ErrForm, "node n,0": api.ErrForm, "node n0,0": api.ErrForm, "node :0,0": api.ErrForm, "node 0,0": api.ErrForm,
		"node n:0,0,0": api.ErrForm, "node n:0:0": api.ErrForm, "node n:0,0:0,0": api.ErrForm, "node n:n:0,0": api.ErrForm, "node n:0,0 n:0,0": api.ErrForm, "node node n:0,0": api.ErrForm, "n:0,0": api.ErrForm, "n:0,0 node": api.ErrForm,
		"node n:0,0+": api.ErrForm, "node n:0,0~": api.ErrForm, "node n:0,0++a": api.ErrForm, "node n:0,0+a+": api.ErrForm, "node n:0,0+a~": api.ErrForm, "node n:0,0~~a": api.ErrForm, "node n:0,0+~a": api.ErrForm, "node n:0,0+!": api.ErrForm, "node n:0,0~!": api.ErrForm,
		"node n:0,0~a+b": api.ErrForm, "node n:0,0+a~b+c": api.ErrForm, "node n:0,0!+a": api.ErrForm, "node n:0,0!~a": api.ErrForm, "node n:0,0+a!~b": api.ErrForm, "node n:0,0!!": api.ErrForm, "node n:0,0!a": api.ErrForm, "node n:0,0+a!!": api.ErrForm, "node !n:0,0": api.ErrForm, "node n!:0,0": api.ErrForm, "node n+a:0,0": api.ErrForm, "node n~a:0,0": api.ErrForm,
		"node m>n:0,0": api.ErrForm, "node n:0,0>m": api.ErrForm, "node n:0,0+a>b": api.ErrForm, "node n:0,0@1": api.ErrForm, "node n@1:0,0": api.ErrForm, "node n:0,0+a@b": api.ErrForm, "node n:0,0+a,b": api.ErrForm, "node n:0,0+a:b": api.ErrForm,
		"node n:0,0+a+a": api.ErrName, "node n:0,0+b+a": api.ErrName, "node n:0,0~a~a": api.ErrName, "node n:0,0~b~a": api.ErrName, "node n:0,0+a+b+c+d+e": api.ErrName, "node n:0,0~a~b~c~d~e!": api.ErrName,
		"gone": api.ErrForm, "gone ": api.ErrForm, "gone n n": api.ErrForm, "gone n:0,0": api.ErrForm, "gone n!": api.ErrForm, "gone n+a": api.ErrForm, "gone n>m": api.ErrForm, "gone,n": api.ErrForm, "gone:n": api.ErrForm, "n": api.ErrForm, "gone n gone m": api.ErrForm, "gone n\ngone m": api.ErrForm, "gone n\nm": api.ErrName,
		"commit": api.ErrForm, "abort ": api.ErrForm, "release": api.ErrForm, "commit 1 1": api.ErrForm, "commit 1,1": api.ErrForm, "commit 1!": api.ErrForm, "commit commit 1": api.ErrForm, "commit 1 commit": api.ErrForm, "1 commit": api.ErrForm, "commit,1": api.ErrForm, "commit1": api.ErrForm, "abort 1 p>n:0,0": api.ErrForm, "release 1:0,0": api.ErrForm, "1": api.ErrForm,
		"gang": api.ErrForm, "gang 1": api.ErrForm, "gang 1 ": api.ErrForm, "gang 1,1": api.ErrForm, "gang ,1": api.ErrForm, "gang 1 ,": api.ErrForm, "gang 1 ,1": api.ErrForm, "gang 1 1,": api.ErrForm, "gang 1 1,,2": api.ErrForm, "gang 1 1 2": api.ErrForm, "gang 1 1,2 3": api.ErrForm, "gang 1 1,x": api.ErrForm, "gang 1 x,1": api.ErrForm, "gang 1 1 p>n:0,0": api.ErrForm, "gang 1 1!": api.ErrForm,
		"gang 1 1,1": api.ErrArg, "gang 1 2,1": api.ErrArg, "gang 1 0,1": api.ErrArg, "gang 1 4,5": api.ErrArg, "gang 1 1,2,3,4,5": api.ErrArg, "gang 1 1,2,3,4,4": api.ErrArg, "gang 0 1": api.ErrArg, "gang 1 1,2,3,4": api.OK, "gang 1 01": api.ErrForm,
		"prepare": api.ErrForm, "prepare 1": api.ErrForm, "prepare 1 ": api.ErrForm, "prepare 1 1 ": api.ErrForm, "prepare 1 p>n:0,0": api.ErrForm, "prepare 1 1 p": api.ErrForm, "prepare 1 1 p>n": api.ErrForm, "prepare 1 1 p>n:0": api.ErrForm, "prepare 1 1 p>n:0,": api.ErrForm, "prepare 1 1 p>:0,0": api.ErrForm, "prepare 1 1 >n:0,0": api.ErrForm, "prepare 1 1 p:0,0": api.ErrForm, "prepare 1 1 n>p>q:0,0": api.ErrForm, "prepare 1 1 p>>n:0,0": api.ErrForm,
		"prepare 1 1 p>n:0,0!!": api.ErrForm, "prepare 1 1 p>n:0,0!q>n:0,0": api.ErrForm, "prepare 1 1 p>n:0,0q>n:0,0": api.ErrForm, "prepare 1 1 p>n:0,0,q>n:0,0": api.ErrForm, "prepare 1 1 p>n:0,0+a": api.ErrForm, "prepare 1 1 p>n:0,0~a": api.ErrForm, "prepare 1 1 !p>n:0,0": api.ErrForm, "prepare 1 1 p>n!:0,0": api.ErrForm, "prepare 1 1 p>n:0,0@": api.ErrForm, "prepare 1 1 p@1>n:0,0": api.ErrForm, "prepare p>n:0,0 1 1": api.ErrForm, "prepare 1 1 1 p>n:0,0": api.ErrForm, "prepare 1 1 p>n:0,0 1": api.ErrForm, "prepare 1 1 p>n:0,0 q": api.ErrForm,
		"prepare 1 1": api.ErrLong, "prepare 1 1,2,3,4": api.ErrLong, "prepare 0 1": api.ErrArg, "prepare 1 5": api.ErrArg, "prepare 1 1 p>n:0,0 p>n:0,0": api.ErrTwice, "prepare 1 1 p>n:0,0 q>n:0,0 p>m:1,1!": api.ErrTwice, "prepare 1 1 p>n:0,0 p>n:0,0 9>n:0,0": api.ErrName,
		"Node n:0,0": api.ErrForm, "NODE n:0,0": api.ErrForm, "nod n:0,0": api.ErrForm, "nodes n:0,0": api.ErrForm, "Gone n": api.ErrForm, "prepared 1 1 p>n:0,0": api.ErrForm, "committed 1": api.ErrForm, "commi 1": api.ErrForm, "gangs 1 1": api.ErrForm, "what 1": api.ErrForm, "\xff 1": api.ErrForm, "commit\xff 1": api.ErrForm, "\ufeffcommit 1": api.ErrForm, "\x00": api.ErrForm, ":": api.ErrForm, "!": api.ErrForm, "@": api.ErrForm,
	} {
		parse(t, s, want)
	}
}

func TestParsePlaces(t *testing.T) {
	s := "prepare 1 1"
	parse(t, s, api.ErrLong)
	for n := 1; n <= 12; n++ {
		s += fmt.Sprintf(" p%d>n:%d,0", n, n)
		want := api.OK
		if n > 8 {
			want = api.ErrLong
		}
		parse(t, s, want)
		// Of each number of places, one that is no line is no line.
		parse(t, s+" ", api.ErrForm)
		parse(t, s+" p", api.ErrForm)
	}
}

// What is wrong in form is told ahead of what Check refuses, wherever it stands.
func TestParseOrder(t *testing.T) {
	for s, want := range map[string]api.Errno{
		"gone A": api.ErrName, "gone A!": api.ErrForm, "node A:1099511627777,0+9": api.ErrName, "node a:1099511627777,0+9": api.ErrArg, "node A:1099511627777,0+9!!": api.ErrForm,
		"gang 0 5": api.ErrArg, "gang 0 5,": api.ErrForm, "prepare 0 5 A>A:0,0 A": api.ErrForm, "prepare 0 5 A>A:0,0": api.ErrArg, "prepare 1 5 A>A:0,0": api.ErrArg, "prepare 1 4 A>A:0,0": api.ErrName,
		"prepare 1 1 a>b:1099511627777,0 A>b:0,0": api.ErrArg, "prepare 1 1 a>B:0,1099511627777": api.ErrName, "prepare 1 1 a>b:0,0 A>b:0,0 c>d:1099511627777,0": api.ErrName,
		"prepare 1 1 a>b:0,0 a>b:0,0 c>d:1099511627777,0": api.ErrArg, "prepare 0 1": api.ErrArg, "prepare 1 2,1": api.ErrArg, "commit 0": api.ErrArg, "commit 0!": api.ErrForm,
	} {
		parse(t, s, want)
	}
}

// Every text of a few parts of lines, against the document's table.
func TestParseShortTexts(t *testing.T) {
	tokens := []string{"node", "gone", "prepare", "commit", "gang", "a", "b", "0", "1", "\xff", " ", ":", ",", "+", "~", "!", ">", "@"}
	texts := []string{""}
	for range 4 {
		var longer []string
		for _, s := range texts {
			for _, token := range tokens {
				longer = append(longer, s+token)
			}
		}
		texts = longer
		for _, s := range texts {
			if _, err := line.Parse(s); err != formed(s) {
				parse(t, s, formed(s))
			}
		}
	}
}

// Lines with a few bytes and words taken away, put in, changed over.
func TestParseChangedLines(t *testing.T) {
	r := rand.New(rand.NewSource(4))
	const bytes = " :,+~!>@01239aznpα\xff\xce\n-"
	ends := map[api.Errno]int{}
	for range 200000 {
		s := []byte(line.Text(anyRecord(r)))
		for range r.Intn(4) {
			at := r.Intn(len(s) + 1)
			switch r.Intn(6) {
			case 0:
				s = slices.Insert(s, at, bytes[r.Intn(len(bytes))])
			case 1:
				s = slices.Delete(s, at, min(at+1, len(s)))
			case 2:
				if at < len(s) {
					s[at] = bytes[r.Intn(len(bytes))]
				}
			case 3:
				to := at + r.Intn(len(s)-at+1)
				s = slices.Insert(s, r.Intn(len(s)+1), slices.Clone(s[at:to])...)
			case 4:
				words := strings.Split(string(s), " ")
				s = []byte(strings.Join(words[:1+r.Intn(len(words))], " "))
			case 5:
				words := strings.Split(string(s), " ")
				s = []byte(strings.Join(append(words, words[r.Intn(len(words))]), " "))
			}
		}
		want := formed(string(s))
		ends[want]++
		parse(t, string(s), want)
		if got, err := line.Parse(string(s)); err == api.OK && !same(got, torn(string(s))) {
			t.Errorf("P401: Parse(%q) = %#v", s, got)
		}
	}
	for _, err := range []api.Errno{api.OK, api.ErrForm, api.ErrName, api.ErrArg, api.ErrLong, api.ErrTwice} {
		if ends[err] < 100 {
			t.Errorf("the texts are too much alike: %v came %d times", err, ends[err])
		}
	}
}

// anyRecord is one that Check allows.
func anyRecord(r *rand.Rand) api.Record {
	x := api.Record{Kind: kinds[r.Intn(len(kinds))]}
	switch x.Kind {
	case api.RNode:
		x.Node = api.Node{Name: anyName(r), Cap: anyVec(r), Marks: anySet(r), Taints: anySet(r), Closed: r.Intn(2) == 0}
		return x
	case api.RGone:
		x.Node.Name = anyName(r)
		return x
	}
	x.Gang = []int{1, 10, 999999, 1 + r.Intn(999999)}[r.Intn(4)]
	if x.Kind == api.RPrepare || x.Kind == api.RGang {
		of := 1 + r.Intn(15)
		for p := 1; p <= 4; p++ {
			if of>>(p-1)&1 == 1 {
				x.Peers = append(x.Peers, p)
			}
		}
	}
	if x.Kind == api.RPrepare {
		seen := map[string]bool{}
		for range 1 + r.Intn(8) {
			p := api.Place{Pod: anyName(r), Node: anyName(r), Need: anyVec(r), Alone: r.Intn(2) == 0}
			if !seen[p.Pod] {
				x.Places = append(x.Places, p)
			}
			seen[p.Pod] = true
		}
	}
	return x
}

func anyName(r *rand.Rand) string {
	runes := []rune("abnpzαβω0159")
	s := string(runes[r.Intn(8)])
	for range r.Intn(8) * r.Intn(2) {
		s += string(runes[r.Intn(len(runes))])
	}
	return s
}

func anyVec(r *rand.Rand) api.Vec {
	part := func() int { return []int{0, 1, 10, most, r.Intn(most + 1)}[r.Intn(5)] }
	return api.Vec{Cpu: part(), Mem: part()}
}

func anySet(r *rand.Rand) []string {
	var l []string
	for range r.Intn(5) {
		l = append(l, anyName(r))
	}
	slices.Sort(l)
	return slices.Compact(l)
}

// P402: each record that is allowed is read of its line as it was.
func TestReadAsItWas(t *testing.T) {
	r := rand.New(rand.NewSource(5))
	for range 50000 {
		x := anyRecord(r)
		check(t, x, api.OK)
		parse(t, line.Text(x), api.OK)
	}
}

// P402: two records that are not the same have two lines.
func TestLinesDiffer(t *testing.T) {
	r := rand.New(rand.NewSource(6))
	seen := map[string]api.Record{}
	for range 50000 {
		x := anyRecord(r)
		s := line.Text(x)
		if y, ok := seen[s]; ok && !same(x, y) {
			t.Fatalf("P402: %#v and %#v are both written %q", x, y, s)
		}
		seen[s] = x
	}
}

// roomy are records whose lists have spare room, filled, and share one memory.
func roomy() []api.Record {
	marks := []string{"a", "b", "c", "d", "e", "f", "g"}
	shards := []int{1, 3, 4, 9, 9}
	some := places(6)
	return []api.Record{
		{Kind: api.RNode, Node: api.Node{Name: "n", Marks: marks[0:3], Taints: marks[1:4]}},
		{Kind: api.RNode, Node: api.Node{Name: "n", Marks: marks[0:0], Taints: marks[4:6]}, Peers: shards[:0], Places: some[:0]},
		{Kind: api.RPrepare, Gang: 7, Peers: shards[0:2], Places: some[0:3], Node: api.Node{Marks: marks[:0]}},
		{Kind: api.RGang, Gang: 7, Peers: shards[1:3], Places: some[3:3]},
		{Kind: api.RGang, Gang: 7, Peers: shards[1:4]},
		{Kind: api.RCommit, Gang: 7, Places: some[2:4]},
		{Kind: 0, Gang: 7, Peers: shards, Places: some, Node: api.Node{Marks: marks, Taints: marks[:0]}},
	}
}

// spread is a record with its lists' spare room, as new memory, so that all of it can be held against another one.
func spread(r api.Record) api.Record {
	r.Peers = slices.Clone(r.Peers[:cap(r.Peers)])
	r.Places = slices.Clone(r.Places[:cap(r.Places)])
	r.Node.Marks = slices.Clone(r.Node.Marks[:cap(r.Node.Marks)])
	r.Node.Taints = slices.Clone(r.Node.Taints[:cap(r.Node.Taints)])
	return r
}

// P2: what is handed in is as it was, its spare room too, and the answer does not hang on that room.
func TestHandedInIsAsItWas(t *testing.T) {
	for _, r := range roomy() {
		was := spread(r)
		tight := r
		tight.Peers, tight.Places = slices.Clip(slices.Clone(r.Peers)), slices.Clip(slices.Clone(r.Places))
		tight.Node.Marks, tight.Node.Taints = slices.Clip(slices.Clone(r.Node.Marks)), slices.Clip(slices.Clone(r.Node.Taints))
		if line.Check(r) != line.Check(tight) || line.Text(r) != line.Text(tight) {
			t.Errorf("P2: the answer hangs on spare room: %#v", r)
		}
		if !reflect.DeepEqual(spread(r), was) {
			t.Errorf("P2: handed in %#v, then %#v", was, spread(r))
		}
	}
}

// full are lines whose records have all lists that their kinds can have.
var full = []string{"node n:3,4+a+b+c~d~e~f!", "prepare 7 1,2,3 p>n:1,2! q>n:3,4 r>m:5,6", "gang 7 1,2,4"}

// fill writes over a list, its spare room too.
func fill[T any](l []T, with T) {
	l = l[:cap(l)]
	for i := range l {
		l[i] = with
	}
}

// P2: an answer is new memory: writing over one touches no other; nor do two lists of one answer share any.
func TestAnswersAreNew(t *testing.T) {
	for _, s := range full {
		for which := range 4 {
			one, _ := line.Parse(s)
			other, _ := line.Parse(s)
			want := torn(s)
			switch which {
			case 0:
				fill(one.Peers, -9)
				one.Peers = want.Peers
			case 1:
				fill(one.Places, api.Place{Pod: "scribble"})
				one.Places = want.Places
			case 2:
				fill(one.Node.Marks, "scribble")
				one.Node.Marks = want.Node.Marks
			case 3:
				fill(one.Node.Taints, "scribble")
				one.Node.Taints = want.Node.Taints
			}
			if !same(one, want) {
				t.Errorf("P2: two lists of the answer of %q share memory: %#v", s, one)
			}
			if !same(other, want) {
				t.Errorf("P2: two answers of %q share memory: %#v", s, other)
			}
			if again, err := line.Parse(s); err != api.OK || !same(again, want) {
				t.Errorf("P3: Parse(%q) = %#v, %v", s, again, err)
			}
		}
	}
}

// P2: a name that was read is new memory, too: it does not keep the line that it was read from.
func TestNamesAreNew(t *testing.T) {
	for _, s := range append([]string{"gone nn"}, full...) {
		r, _ := line.Parse(s)
		names := append([]string{r.Node.Name}, slices.Concat(r.Node.Marks, r.Node.Taints)...)
		for _, p := range r.Places {
			names = append(names, p.Pod, p.Node)
		}
		from := uintptr(unsafe.Pointer(unsafe.StringData(s)))
		for _, name := range names {
			if at := uintptr(unsafe.Pointer(unsafe.StringData(name))); name != "" && from <= at && at < from+uintptr(len(s)) {
				t.Errorf("P2: %q of %q is in its memory", name, s)
			}
		}
	}
}

// P2: what was handed in is not kept: a line that is written does not change with its record.
func TestNothingIsKept(t *testing.T) {
	for _, r := range roomy()[:4] {
		s := line.Text(r)
		was := strings.Clone(s)
		got, _ := line.Parse(s)
		read := spread(got)
		fill(r.Peers, -9)
		fill(r.Places, api.Place{Pod: "scribble"})
		fill(r.Node.Marks, "scribble")
		fill(r.Node.Taints, "scribble")
		if s != was || !reflect.DeepEqual(spread(got), read) {
			t.Errorf("P2: %q was kept: %q, %#v", was, s, got)
		}
	}
}

// P3: the same calls answer the same.
func TestSameAnswers(t *testing.T) {
	for range 50 {
		for _, x := range written {
			got, err := line.Parse(x.s)
			if line.Check(x.r) != api.OK || line.Text(x.r) != x.s || err != api.OK || !same(got, x.r) {
				t.Fatalf("P3: other answers of %q", x.s)
			}
		}
	}
}

// P1: a text, a record of any size is gone through in the time that its size asks for.
func TestLong(t *testing.T) {
	const n = 300000
	for _, x := range []struct {
		head, part, tail string
		want             api.Errno
	}{
		{"", " ", "", api.ErrForm}, {"", "a", "", api.ErrForm}, {"", "\xff", "", api.ErrForm}, {"gone ", "α", "", api.ErrName}, {"gone ", "\xff", " ", api.ErrForm},
		{"node n:0,0", "+a", "", api.ErrName}, {"node n:0,0", "~a", "", api.ErrName}, {"node n:0,0", "!", "", api.ErrForm}, {"node n:0,0", "+", "", api.ErrForm}, {"node n:0,0", "+a", "@", api.ErrForm},
		{"gang 1 1", ",2", "", api.ErrArg}, {"gang 1 1", ",", "", api.ErrForm}, {"gang 1 1", "1", "", api.ErrForm}, {"gang 1 1", ",2", "!", api.ErrForm}, {"commit 1", "0", "", api.ErrForm}, {"commit ", "0", "", api.ErrForm},
		{"prepare 1 1", " p>n:0,0!", "", api.ErrLong}, {"prepare 1 1", " p>n:0,0", " ", api.ErrForm}, {"prepare 1 1", " p", "", api.ErrForm}, {"prepare 1 1", " ", "", api.ErrForm},
	} {
		s := x.head + strings.Repeat(x.part, n) + x.tail
		if r, err := line.Parse(s); err != x.want || !same(r, api.Record{}) {
			t.Errorf("P401: Parse of %q, %d times %q, %q: %v, want %v", x.head, n, x.part, x.tail, err, x.want)
		}
	}
	for _, r := range []api.Record{{Kind: api.RPrepare, Gang: 1, Peers: []int{1}, Places: make([]api.Place, n)}, {Kind: api.RGang, Gang: 1, Peers: make([]int, n)}, {Kind: api.RNode, Node: api.Node{Name: "n", Marks: make([]string, n)}}} {
		if line.Check(r) == api.OK || len(line.Text(r)) < n {
			t.Errorf("P401: a record of many, of kind %d", r.Kind)
		}
	}
}
