package ledger_test

import (
	"fmt"
	"slices"
	"testing"

	"joinery/api"
	"joinery/ledger"
)

// P6: that a gang has places goes ahead of every other error.
func TestTakeTwice(t *testing.T) {
	l := filled(t, node("a", 10, 10), node("b", 10, 10))
	first := []api.Place{place("p", "a", 1, 2), place("q", "b", 3, 4)}
	take(t, l, 7, first...)
	takeRefused(t, l, api.ErrTwice, 7)
	takeRefused(t, l, api.ErrTwice, 7, first...)
	takeRefused(t, l, api.ErrTwice, 7, place("r", "a", 1, 1))
	takeRefused(t, l, api.ErrTwice, 7, place("r", "none", 1, 1))
	takeRefused(t, l, api.ErrTwice, 7, place("r", "a", -1, 1))
	takeRefused(t, l, api.ErrTwice, 7, place("r", "a", 10, 10))
	places(t, l, 7, first...)
	take(t, l, 8, place("r", "a", 0, 0))
	takeRefused(t, l, api.ErrTwice, 8, place("r", "a", 0, 0))
	check(t, "P702: Give", l.Give(7), api.OK)
	take(t, l, 7, place("r", "b", 10, 10))
	takeRefused(t, l, api.ErrTwice, 8)
}

func TestTakeOfNoPlaces(t *testing.T) {
	l := filled(t, node("a", 10, 10))
	for _, gang := range gangs {
		takeRefused(t, l, api.ErrLong, gang)
		takeRefused(t, l, api.ErrLong, gang, []api.Place{}...)
		giveRefused(t, l, gang, api.ErrNone)
	}
}

// Any number is a gang, any text a pod, and there may be more places than a gang has pods: Take refuses none of these.
func TestTakeOfAnything(t *testing.T) {
	l := filled(t, api.Node{Name: "a", Cap: of(100, 100), Taints: []string{"t"}, Closed: true})
	for _, gang := range gangs {
		p := []api.Place{place("", "a", 1, 1), place("P", "a", 0, 0), place("\xff", "a", 0, 0), {Pod: "p", Node: "a", Alone: true}, {Pod: "p", Node: "a", Alone: true}}
		take(t, l, gang, p...)
		places(t, l, gang, p...)
	}
	used(t, l, "a", of(len(gangs), len(gangs)), 5*len(gangs))
	for _, gang := range gangs {
		check(t, fmt.Sprintf("P702: Give(%d)", gang), l.Give(gang), api.OK)
	}
	long := make([]api.Place, 300000)
	for i := range long {
		long[i] = place("p", "a", 0, 0)
	}
	take(t, l, 1, long...)
	used(t, l, "a", of(0, 0), len(long))
	check(t, "P702: Give", l.Give(1), api.OK)
	used(t, l, "a", of(0, 0), 0)
}

// The first place that is wrong counts; at one place ErrNone goes ahead of ErrArg; both go ahead of ErrRoom, wherever that is.
func TestTakeOfWrongPlaces(t *testing.T) {
	good, none, arg, both := place("g", "a", 1, 1), place("n", "x", 1, 1), place("m", "a", 1, -1), place("l", "x", -1, 0)
	room, over := place("r", "b", 11, 0), place("o", "b", most, most)
	for _, x := range []struct {
		p    []api.Place
		want api.Errno
	}{
		{[]api.Place{none}, api.ErrNone}, {[]api.Place{arg}, api.ErrArg}, {[]api.Place{both}, api.ErrNone},
		{[]api.Place{good, none}, api.ErrNone}, {[]api.Place{good, arg}, api.ErrArg}, {[]api.Place{good, both}, api.ErrNone},
		{[]api.Place{none, good}, api.ErrNone}, {[]api.Place{arg, good}, api.ErrArg}, {[]api.Place{both, good}, api.ErrNone},
		{[]api.Place{none, arg}, api.ErrNone}, {[]api.Place{arg, none}, api.ErrArg}, {[]api.Place{arg, both}, api.ErrArg},
		{[]api.Place{both, arg}, api.ErrNone}, {[]api.Place{good, arg, good, none}, api.ErrArg}, {[]api.Place{good, none, arg}, api.ErrNone},
		{[]api.Place{room, none}, api.ErrNone}, {[]api.Place{room, arg}, api.ErrArg}, {[]api.Place{room, good, both}, api.ErrNone},
		{[]api.Place{none, room}, api.ErrNone}, {[]api.Place{arg, room}, api.ErrArg}, {[]api.Place{room}, api.ErrRoom},
		{[]api.Place{over, over, none}, api.ErrNone}, {[]api.Place{over, over, arg}, api.ErrArg}, {[]api.Place{over, over}, api.ErrRoom},
		{[]api.Place{good, good, good, none}, api.ErrNone}, {[]api.Place{good, good, good, arg}, api.ErrArg},
	} {
		takeRefused(t, filled(t, node("a", 10, 10), node("b", 10, 10)), x.want, 1, x.p...)
	}
}

func TestTakeOfNoSuchNode(t *testing.T) {
	l := filled(t, node("a", 10, 10))
	for _, name := range []string{"b", "", "A", "aa", "α", "\xff", "p"} {
		takeRefused(t, l, api.ErrNone, 1, place("p", name, 0, 0))
		takeRefused(t, l, api.ErrNone, 1, place("a", "a", 1, 1), place("p", name, 0, 0))
	}
}

func TestTakeOfNeedsThatAreNotRight(t *testing.T) {
	l := filled(t, node("a", 10, 10))
	for _, need := range []api.Vec{of(-1, 0), of(0, -1), of(-1, -1), of(least, 0), of(0, least), of(-1, most), of(most, -1), of(-5, 5)} {
		takeRefused(t, l, api.ErrArg, 1, api.Place{Pod: "p", Node: "a", Need: need})
		takeRefused(t, l, api.ErrArg, 1, place("o", "a", 5, 5), api.Place{Pod: "p", Node: "a", Need: need})
	}
	for _, need := range []api.Vec{of(api.Most+1, 0), of(0, api.Most+1), of(most, 0), of(0, most)} {
		takeRefused(t, l, api.ErrRoom, 1, api.Place{Pod: "p", Node: "a", Need: need}) // right, but more than a node can have
	}
}

// Of 10 and 20, 4 and 5 are used by another gang.
func TestTakeThatJustFits(t *testing.T) {
	begin := func() *ledger.Ledger {
		l := filled(t, node("a", 10, 20), node("b", 50, 50))
		take(t, l, 1, place("p", "a", 4, 5))
		return l
	}
	for _, p := range [][]api.Place{
		{place("p", "a", 6, 15)}, {place("p", "a", 6, 0)}, {place("p", "a", 0, 15)}, {place("p", "a", 0, 0)},
		{place("p", "a", 3, 15), place("q", "a", 3, 0)}, {place("p", "a", 2, 5), place("q", "b", 50, 50), place("r", "a", 2, 5), place("s", "a", 2, 5)},
	} {
		take(t, begin(), 2, p...)
	}
	for _, p := range [][]api.Place{
		{place("p", "a", 7, 15)}, {place("p", "a", 6, 16)}, {place("p", "a", 7, 0)}, {place("p", "a", 0, 16)}, {place("p", "a", 10, 20)},
		{place("p", "a", 3, 15), place("q", "a", 4, 0)}, {place("p", "a", 3, 15), place("q", "a", 3, 1)}, // one by one they fit
		{place("p", "a", 6, 15), place("q", "a", 0, 1)}, {place("p", "a", 6, 15), place("q", "a", 1, 0)},
		{place("p", "a", 4, 4), place("q", "b", 50, 50), place("r", "a", 4, 4)},
		{place("p", "a", 2, 5), place("q", "b", 50, 50), place("r", "a", 2, 5), place("s", "a", 2, 6)},
		{place("p", "b", 50, 50), place("q", "a", 1, 1), place("r", "b", 0, 1)}, {place("p", "b", 1, 1), place("q", "b", 50, 1)},
		{place("p", "b", 51, 0), place("q", "a", 1, 1)}, {place("p", "a", 1, 1), place("q", "b", 0, 51)},
	} {
		takeRefused(t, begin(), api.ErrRoom, 2, p...)
	}
	l := begin()
	take(t, l, 2, place("p", "a", 6, 15))
	used(t, l, "a", of(10, 20), 2)
	takeRefused(t, l, api.ErrRoom, 3, place("p", "a", 1, 0))
	takeRefused(t, l, api.ErrRoom, 3, place("p", "a", 0, 1))
	take(t, l, 3, place("p", "a", 0, 0))
	used(t, l, "a", of(10, 20), 3)
}

// A sum that wraps round would look as if it fitted.
func TestTakeOfSumsThatAreNone(t *testing.T) {
	l := filled(t, node("a", api.Most, api.Most), node("b", 0, 0))
	take(t, l, 1, place("p", "a", 3, 3))
	half := 1 << 62
	for _, p := range [][]api.Place{
		{place("p", "a", most, 0)}, {place("p", "a", 0, most)}, {place("p", "a", most-2, 0)}, {place("p", "a", 0, most-3)},
		{place("p", "a", half, 0), place("q", "a", half, 0)}, {place("p", "a", 0, half), place("q", "a", 0, half)},
		{place("p", "a", half, 0), place("q", "a", half, 0), place("r", "a", half, 0), place("s", "a", half, 0)},
		{place("p", "a", 0, half), place("q", "a", 0, half), place("r", "a", 0, half), place("s", "a", 0, half)},
		{place("p", "a", most, most), place("q", "a", most, most), place("r", "a", 2, 2)},
		{place("p", "b", most, 0), place("q", "b", most, 0), place("r", "b", 2, 0)},
		{place("p", "a", 1, 1), place("q", "b", 0, most), place("r", "b", 0, most), place("s", "b", 0, 2)},
	} {
		takeRefused(t, l, api.ErrRoom, 2, p...)
	}
	take(t, l, 2, place("p", "a", api.Most-3, 0), place("q", "a", 0, api.Most-3), place("r", "b", 0, 0))
	used(t, l, "a", of(api.Most, api.Most), 3)
	used(t, l, "b", of(0, 0), 1)
}

func TestGive(t *testing.T) {
	l := filled(t, node("a", 10, 10), node("b", 10, 10))
	p := []api.Place{place("p", "a", 10, 4), place("q", "b", 1, 1), place("r", "a", 0, 6)}
	empty := told(l)
	for range 3 {
		take(t, l, 1, p...)
		giveRefused(t, l, 2, api.ErrNone)
		giveRefused(t, l, 0, api.ErrNone)
		takeRefused(t, l, api.ErrRoom, 2, place("p", "a", 1, 0))
		check(t, "P702: Give", l.Give(1), api.OK)
		if got := told(l); got != empty {
			t.Errorf("P702: Give left\n%s, want\n%s", got, empty)
		}
		giveRefused(t, l, 1, api.ErrNone)
		take(t, l, 2, place("p", "a", 10, 10), place("q", "b", 10, 10)) // all of its room is free again
		check(t, "P702: Give", l.Give(2), api.OK)
	}
	take(t, l, 1, p...)
	take(t, l, 2, place("p", "b", 2, 2))
	check(t, "P702: Give", l.Give(1), api.OK)
	places(t, l, 2, place("p", "b", 2, 2)) // another gang's are not given
	used(t, l, "b", of(2, 2), 1)
	take(t, l, 1, place("z", "b", 8, 8)) // and it may have others now
	places(t, l, 1, place("z", "b", 8, 8))
}

// As they were taken: in their order, with all that they say, and not by names.
func TestPlaces(t *testing.T) {
	l := filled(t, node("a", 100, 100), node("b", 100, 100))
	one := []api.Place{place("z", "b", 1, 2), {Pod: "a", Node: "a", Need: of(3, 4), Alone: true}, place("z", "b", 1, 2), place("m", "a", 0, 0)}
	other := slices.Clone(one)
	slices.Reverse(other)
	take(t, l, 1, one...)
	take(t, l, 2, other...)
	for range 2 {
		places(t, l, 1, one...)
		places(t, l, 2, other...)
	}
	for _, gang := range []int{0, 3, -1, 1000000, most} {
		places(t, l, gang)
	}
	check(t, "P702: Give", l.Give(1), api.OK)
	places(t, l, 1)
	places(t, l, 2, other...)
}
