package tape_test

import (
	"fmt"
	"math/rand/v2"
	"slices"
	"strings"
	"testing"

	"joinery/api"
	"joinery/tape"
)

// model is a tape as two lists: what lasts, and what does not.
type model struct {
	fast, loose []api.Record
}

func (m *model) Write(r api.Record) { m.loose = append(m.loose, r) }

func (m *model) Sync() { m.Crash(len(m.loose)) }

func (m *model) Crash(keep int) {
	for i, r := range m.loose {
		if i < keep {
			m.fast = append(m.fast, r)
		}
	}
	m.loose = nil
}

// keeper is what a tape and the model have in common.
type keeper interface {
	Write(r api.Record)
	Sync()
	Crash(keep int)
}

// call is one of a keeper, and how it is told.
type call struct {
	name string
	of   func(k keeper)
}

func writeOf(r api.Record) call {
	return call{fmt.Sprintf("Write(%+v)", r), func(k keeper) { k.Write(r) }}
}

func syncOf() call { return call{"Sync()", func(k keeper) { k.Sync() }} }

func crashOf(keep int) call {
	return call{fmt.Sprintf("Crash(%d)", keep), func(k keeper) { k.Crash(keep) }}
}

// kept asks for P902 by what the tape itself tells ahead of a call and behind it: what lasted stays where it was, what is there of the rest is a front of it, and what is more was written by the call.
func kept(t *testing.T, path string, x *tape.Tape, c call) {
	t.Helper()
	before, lasting := x.Lines(), x.Lasting()
	c.of(x)
	after, now := x.Lines(), x.Lasting()
	front := min(len(before), len(after))
	if now < lasting || len(after) < lasting || !slices.Equal(before[:front], after[:front]) {
		t.Fatalf("P902: %s\nof %q %d lasted, of %q %d do", path, before, lasting, after, now)
	}
	if wrote := strings.HasPrefix(c.name, "Write"); wrote && (len(after) != len(before)+1 || now != lasting) || !wrote && (len(after) > len(before) || now != len(after)) {
		t.Fatalf("P901: %s\nof %q %d lasted, of %q %d do", path, before, lasting, after, now)
	}
}

// play makes the calls of a tape and of the model; the tape must tell the same after each.
func play(t *testing.T, calls []call) {
	t.Helper()
	x, m := tape.New(), &model{}
	path := ""
	for _, c := range calls {
		path += c.name + " "
		kept(t, path, x, c)
		c.of(m)
		tells(t, path, x, len(m.fast), slices.Concat(m.fast, m.loose)...)
	}
}

// P901, P902, over each row of five calls out of these, in each order; the records are told apart by their place.
func TestEachOrderOfCalls(t *testing.T) {
	const n, long = 7, 5
	for code := range n * n * n * n * n {
		row := make([]call, long)
		for at := range row {
			few := [n]call{writeOf(commit(at + 1)), writeOf(commit(at + 11)), syncOf(), crashOf(-1), crashOf(0), crashOf(1), crashOf(2)}
			row[at] = few[code%n]
			code /= n
		}
		play(t, row)
	}
}

// anyKeep is a number for Crash where so many do not last, and what it is.
func anyKeep(r *rand.Rand, loose int) (int, string) {
	switch r.IntN(9) {
	case 0:
		return 0, "none"
	case 1:
		return -1 - r.IntN(5), "below"
	case 2:
		return []int{least, least + 1, -1 << 40}[r.IntN(3)], "least"
	case 3:
		return []int{most, most - 1, 1 << 40}[r.IntN(3)], "greatest"
	case 4:
		return loose, "all"
	case 5:
		return loose + 1 + r.IntN(5), "more"
	}
	return r.IntN(loose + 1), "some"
}

// P902, and all of P901, over long rows of any calls. The test counts that each kind of call came up while some did not last.
func TestAnyCalls(t *testing.T) {
	r := rand.New(rand.NewPCG(9, 13))
	seen := map[string]int{}
	all := kinds()
	for range 200 {
		var calls []call
		m := &model{}
		for i := range 80 {
			name, c := "write", writeOf(commit(i+1))
			switch r.IntN(8) {
			case 0:
				name, c = "sync", syncOf()
			case 1:
				var keep int
				keep, name = anyKeep(r, len(m.loose))
				c = crashOf(keep)
			case 2, 3, 4:
				w := all[r.IntN(len(all))]
				name, c = w.s, writeOf(w.r)
			}
			if len(m.loose) > 1 {
				seen[name]++
			}
			c.of(m)
			calls = append(calls, c)
		}
		play(t, calls)
	}
	want := []string{"write", "sync", "none", "below", "least", "greatest", "all", "more", "some"}
	for _, w := range all {
		want = append(want, w.s)
	}
	for _, name := range want {
		if seen[name] < 50 {
			t.Errorf("%q came up %d times, too few to tell: %v", name, seen[name], seen)
		}
	}
}
