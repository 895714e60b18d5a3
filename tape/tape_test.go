package tape_test

import (
	"fmt"
	"math"
	"slices"
	"testing"

	"joinery/api"
	"joinery/line"
	"joinery/tape"
)

const (
	most  = math.MaxInt
	least = math.MinInt
)

// written is a record and its line.
type written struct {
	r api.Record
	s string
}

// kinds are records of each kind, with all that it can have and with the least, and their lines, each in memory of its own.
func kinds() []written {
	const top = 1099511627776 // 2^40
	var pods []api.Place
	for _, name := range []string{"a", "b", "c", "d", "e", "f", "g", "h"} {
		pods = append(pods, api.Place{Pod: name, Node: "n"})
	}
	return []written{
		{api.Record{Kind: api.RNode, Node: api.Node{Name: "αβ", Cap: of(3, 4), Marks: []string{"gpu", "ssd"}, Taints: []string{"hot", "ω"}, Closed: true}}, "node αβ:3,4+gpu+ssd~hot~ω!"},
		{api.Record{Kind: api.RNode, Node: api.Node{Name: "n"}}, "node n:0,0"},
		{api.Record{Kind: api.RNode, Node: api.Node{Name: "ωωωωωωωω", Cap: of(top, top), Marks: []string{"a", "b", "c", "d"}, Taints: []string{"a", "b", "c", "d"}}}, "node ωωωωωωωω:1099511627776,1099511627776+a+b+c+d~a~b~c~d"},
		{api.Record{Kind: api.RGone, Node: api.Node{Name: "αβ"}}, "gone αβ"},
		{api.Record{Kind: api.RPrepare, Gang: 7, Peers: []int{1, 3}, Places: []api.Place{{Pod: "p", Node: "n", Need: of(1, 2), Alone: true}, {Pod: "q", Node: "n"}}}, "prepare 7 1,3 p>n:1,2! q>n:0,0"},
		{api.Record{Kind: api.RPrepare, Gang: 999999, Peers: []int{1, 2, 3, 4}, Places: pods}, "prepare 999999 1,2,3,4 a>n:0,0 b>n:0,0 c>n:0,0 d>n:0,0 e>n:0,0 f>n:0,0 g>n:0,0 h>n:0,0"},
		{commit(1), "commit 1"},
		{api.Record{Kind: api.RAbort, Gang: 2}, "abort 2"},
		{api.Record{Kind: api.RRelease, Gang: 999999}, "release 999999"},
		{api.Record{Kind: api.RGang, Gang: 8, Peers: []int{1, 2, 4}}, "gang 8 1,2,4"},
		{api.Record{Kind: api.RGang, Gang: 8, Peers: []int{4}}, "gang 8 4"},
	}
}

func of(cpu, mem int) api.Vec { return api.Vec{Cpu: cpu, Mem: mem} }

func commit(gang int) api.Record { return api.Record{Kind: api.RCommit, Gang: gang} }

// commits are those of these gangs.
func commits(gangs ...int) []api.Record {
	var l []api.Record
	for _, gang := range gangs {
		l = append(l, commit(gang))
	}
	return l
}

func write(x *tape.Tape, l ...api.Record) {
	for _, r := range l {
		x.Write(r)
	}
}

// same tells whether two records are the same; no list and an empty one are.
func same(a, b api.Record) bool {
	return a.Kind == b.Kind && a.Gang == b.Gang && slices.Equal(a.Peers, b.Peers) && slices.Equal(a.Places, b.Places) &&
		a.Node.Name == b.Node.Name && a.Node.Cap == b.Node.Cap && slices.Equal(a.Node.Marks, b.Node.Marks) &&
		slices.Equal(a.Node.Taints, b.Node.Taints) && a.Node.Closed == b.Node.Closed
}

// tells asks that x tells just these records, by All and by Lines, and that so many last; twice, since it is changed by no telling (P3).
func tells(t *testing.T, what string, x *tape.Tape, lasting int, want ...api.Record) {
	t.Helper()
	for range 2 {
		if got := x.Lasting(); got != lasting {
			t.Fatalf("P901: %s: %d last, want %d", what, got, lasting)
		}
		if got := x.All(); !slices.EqualFunc(got, want, same) {
			t.Fatalf("P901: %s: All is %+v, want %+v", what, got, want)
		}
		l := x.Lines()
		if len(l) != len(want) {
			t.Fatalf("P901: %s: Lines are %q, want those of %+v", what, l, want)
		}
		for i, r := range want {
			if got, err := line.Parse(l[i]); l[i] != line.Text(r) || err != api.OK || !same(got, r) {
				t.Fatalf("P901: %s: line %d is %q, read %+v, %v, want %+v", what, i, l[i], got, err, r)
			}
		}
	}
}

// P901, the document's example: on a new one there is none.
func TestNew(t *testing.T) {
	tells(t, "a new one", tape.New(), 0)
	tells(t, "a zero one", &tape.Tape{}, 0)
	x := tape.New()
	x.Sync()
	tells(t, "Sync of none", x, 0)
	for _, keep := range []int{least, -1, 0, 1, most} {
		x := tape.New()
		x.Crash(keep)
		tells(t, fmt.Sprintf("Crash(%d) of none", keep), x, 0)
		write(x, commit(1))
		tells(t, fmt.Sprintf("Crash(%d) of none, and one", keep), x, 0, commit(1))
	}
}

// P901: a record of each kind is told as it was written, whether it lasts or not.
func TestKinds(t *testing.T) {
	for _, w := range kinds() {
		x := tape.New()
		x.Write(w.r)
		tells(t, w.s, x, 0, w.r)
		x.Sync()
		tells(t, w.s+", synced", x, 1, w.r)
		if got := x.Lines(); got[0] != w.s {
			t.Errorf("P901: %+v has the line %q, want %q", w.r, got[0], w.s)
		}
	}
}

// P901: all records are told in the order in which they were written, each as often as it was.
func TestOrder(t *testing.T) {
	l := kinds()
	for shift := range l {
		x := tape.New()
		var all []api.Record
		var texts []string
		for i := range 2 * len(l) {
			w := l[(i*i+shift)%len(l)]
			x.Write(w.r)
			all, texts = append(all, w.r), append(texts, w.s)
			if i%3 == shift%3 {
				x.Sync()
			}
		}
		x.Sync()
		tells(t, fmt.Sprint("shifted by ", shift), x, len(all), all...)
		if got := x.Lines(); !slices.Equal(got, texts) {
			t.Errorf("P901: Lines are %q, want %q", got, texts)
		}
	}
}

// P901: what is written does not last until Sync; then all of it does.
func TestSync(t *testing.T) {
	x := tape.New()
	write(x, commit(1))
	tells(t, "one written", x, 0, commits(1)...)
	write(x, commit(2), commit(3))
	tells(t, "three written", x, 0, commits(1, 2, 3)...)
	x.Sync()
	tells(t, "all synced", x, 3, commits(1, 2, 3)...)
	x.Sync()
	tells(t, "synced again", x, 3, commits(1, 2, 3)...)
	write(x, commit(4), commit(5))
	tells(t, "two more", x, 3, commits(1, 2, 3, 4, 5)...)
	x.Sync()
	tells(t, "synced with two more", x, 5, commits(1, 2, 3, 4, 5)...)
	x.Crash(0)
	tells(t, "what was synced, behind a crash", x, 5, commits(1, 2, 3, 4, 5)...)
}

// upTo is the gangs from 1 to n.
func upTo(n int) []int {
	var l []int
	for i := range n {
		l = append(l, i+1)
	}
	return l
}

// half is a tape of so many records that last, and so many that do not.
func half(lasting, loose int) *tape.Tape {
	x := tape.New()
	write(x, commits(upTo(lasting)...)...)
	x.Sync()
	write(x, commits(upTo(lasting + loose)[lasting:]...)...)
	return x
}

// P901, P902: of those that do not last a crash leaves the first keep ones, none below 0, all where there are no more; they last, and what lasted stays.
func TestCrash(t *testing.T) {
	for lasting := range 5 {
		for loose := range 6 {
			keeps := []int{least, least + 1, -1 << 32, -2, -1, 0, loose - 1, loose, loose + 1, lasting + loose, lasting + loose + 1, 1 << 32, most - 1, most}
			for keep := range loose {
				keeps = append(keeps, keep)
			}
			for _, keep := range keeps {
				stay := keep
				if keep < 0 {
					stay = 0
				}
				if keep > loose {
					stay = loose
				}
				crash(t, lasting, loose, keep, lasting+stay)
			}
		}
	}
}

// crash asks that Crash(keep) leaves so many in all, and of what comes behind it.
func crash(t *testing.T, lasting, loose, keep, left int) {
	t.Helper()
	what := fmt.Sprintf("%d lasting, %d not, Crash(%d)", lasting, loose, keep)
	x := half(lasting, loose)
	tells(t, what+" not yet", x, lasting, commits(upTo(lasting+loose)...)...)
	x.Crash(keep)
	tells(t, what, x, left, commits(upTo(left)...)...)
	for _, again := range []int{0, least, most, 1} {
		x.Crash(again)
		tells(t, fmt.Sprintf("%s, Crash(%d)", what, again), x, left, commits(upTo(left)...)...)
	}
	behind := append(upTo(left), 101, 102, 103)
	write(x, commits(101, 102, 103)...)
	tells(t, what+", three more", x, left, commits(behind...)...)
	x.Crash(2)
	tells(t, what+", three more, Crash(2)", x, left+2, commits(behind[:left+2]...)...)
	write(x, commit(104))
	x.Sync()
	tells(t, what+", three more, Crash(2), one more, synced", x, left+3, commits(append(behind[:left+2], 104)...)...)
}

// P902: records of any kind stay as they were over many crashes, each of which takes one.
func TestCrashOfKinds(t *testing.T) {
	x := tape.New()
	var all []api.Record
	for range 3 {
		for i, w := range kinds() {
			write(x, w.r, commit(500+i))
			x.Crash(1)
			all = append(all, w.r)
			tells(t, w.s, x, len(all), all...)
		}
	}
}

// P1: many records are gone through in the time that their number asks for, whether each is synced or all at once.
func TestMany(t *testing.T) {
	const n = 100000
	each, once := tape.New(), tape.New()
	for i := range n {
		each.Write(commit(i + 1))
		each.Sync()
		once.Write(commit(i + 1))
	}
	once.Crash(n - 1)
	once.Write(commit(n))
	once.Sync()
	for _, x := range []*tape.Tape{each, once} {
		all, l := x.All(), x.Lines()
		if x.Lasting() != n || len(all) != n || len(l) != n || !same(all[n-1], commit(n)) || l[n/2] != fmt.Sprint("commit ", n/2+1) {
			t.Errorf("P901: of %d records %d last, All tells %d, Lines %d", n, x.Lasting(), len(all), len(l))
		}
	}
	once.Crash(0)
	if len(once.All()) != n {
		t.Errorf("P902: of %d that last %d are there", n, len(once.All()))
	}
}
