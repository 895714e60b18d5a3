package pack_test

import (
	"slices"
	"testing"

	"joinery/api"
	"joinery/pack"
)

// Pods that must be alone, and others beside them: of one gang only.
func TestAlone(t *testing.T) {
	one := []api.Node{node("a", 10, 10)}
	for _, mode := range []int{mostLeft, leastLeft, fewestPods, noMode} {
		packed(t, filled(t, one...), 1, mode, "p>a", alone(pod("p", 1, 1)))
		refused(t, filled(t, one...), 1, mode, api.ErrRoom, alone(pod("p", 1, 1)), pod("q", 1, 1))
		refused(t, filled(t, one...), 1, mode, api.ErrRoom, pod("p", 1, 1), alone(pod("q", 1, 1)))
		refused(t, filled(t, one...), 1, mode, api.ErrRoom, alone(pod("p", 0, 0)), alone(pod("q", 0, 0)))
		refused(t, filled(t, one...), 1, mode, api.ErrRoom, pod("p", 0, 0), pod("q", 0, 0), alone(pod("r", 0, 0)))
		refused(t, filled(t, closed(node("a", 9, 9)), node("b", 9, 9)), 1, mode, api.ErrRoom, alone(pod("p", 0, 0)), pod("q", 0, 0))
	}
	l := filled(t, one...)
	take(t, l, 8, "a", 1, 1) // must be alone in its own gang
	packed(t, l, 1, mostLeft, "p>a", alone(pod("p", 1, 1)))
	packed(t, l, 2, mostLeft, "p>a", alone(pod("p", 1, 1)))
	packed(t, l, 3, mostLeft, "p>a q>a", pod("p", 1, 1), pod("q", 1, 1))
	refused(t, l, 4, mostLeft, api.ErrRoom, pod("p", 1, 1), alone(pod("q", 1, 1)))
}

func TestClosed(t *testing.T) {
	l := filled(t, closed(node("a", 90, 90)), node("b", 10, 10), closed(node("c", 90, 90)))
	stays(t, l, pod("p", 10, 10), "b")
	stays(t, l, pod("p", 11, 0), "")
	packed(t, l, 2, mostLeft, "p>b q>b", pod("p", 1, 1), pod("q", 1, 1))
	l.Put(closed(node("b", 10, 10)))
	stays(t, l, pod("p", 0, 0), "")
	l.Put(node("c", 90, 90))
	stays(t, l, pod("p", 0, 0), "c")
}

func TestMarks(t *testing.T) {
	l := filled(t, node("a", 10, 10), marked(node("b", 10, 10), "gpu"), marked(node("c", 10, 10), "gpu", "ssd"), marked(node("d", 10, 10), "α"))
	stays(t, l, pod("p", 1, 1), "a")
	stays(t, l, picks(pod("p", 1, 1), "gpu"), "b")
	stays(t, l, picks(pod("p", 1, 1), "ssd"), "c")
	stays(t, l, picks(pod("p", 1, 1), "gpu", "ssd"), "c")
	stays(t, l, picks(pod("p", 1, 1), "α"), "d")
	stays(t, l, picks(pod("p", 1, 1), "gpu", "α"), "")
	stays(t, l, picks(pod("p", 1, 1), "gp"), "")
	stays(t, l, picks(pod("p", 1, 1), "gpu", "sse"), "")
	stays(t, l, bears(picks(pod("p", 1, 1), "hot"), "hot"), "") // what a pod bears is no mark of a node
	packed(t, l, 2, noMode, "p>c q>a r>b", picks(pod("p", 1, 1), "ssd"), pod("q", 1, 1), picks(pod("r", 1, 1), "gpu"))
}

func TestTaints(t *testing.T) {
	l := filled(t, tainted(node("a", 10, 10), "hot"), tainted(node("b", 10, 10), "hot", "wet"), tainted(node("c", 10, 10), "wet"))
	stays(t, l, pod("p", 1, 1), "")
	stays(t, l, bears(pod("p", 1, 1), "hot"), "a")
	stays(t, l, bears(pod("p", 1, 1), "wet"), "c")
	stays(t, l, bears(pod("p", 1, 1), "hot", "wet"), "a")
	stays(t, l, bears(pod("p", 1, 1), "dry"), "")
	stays(t, l, bears(pod("p", 1, 1), "ho", "we"), "")
	take(t, l, 8, "a", 10, 10)
	stays(t, l, bears(pod("p", 1, 1), "dry", "hot", "wet"), "b")
	stays(t, l, bears(pod("p", 1, 1), "hot"), "")
	l.Put(node("d", 10, 10))
	stays(t, l, pod("p", 1, 1), "d")
	stays(t, l, picks(pod("p", 1, 1), "hot"), "") // a taint is no mark
}

// Of 10 and 20, 4 and 5 are used by another gang.
func TestRoomThatJustFits(t *testing.T) {
	l := filled(t, node("a", 10, 20))
	take(t, l, 8, "a", 4, 5)
	for _, need := range []api.Vec{of(6, 15), of(6, 0), of(0, 15), of(0, 0), of(5, 14)} {
		stays(t, l, pod("p", need.Cpu, need.Mem), "a")
	}
	for _, need := range []api.Vec{of(7, 15), of(6, 16), of(7, 0), of(0, 16), of(10, 20), of(15, 6), of(api.Most, 0), of(0, api.Most)} {
		stays(t, l, pod("p", need.Cpu, need.Mem), "")
	}
	first := pod("p", 2, 5)
	for _, need := range []api.Vec{of(4, 10), of(4, 0), of(0, 10), of(0, 0)} {
		packed(t, l, 1, mostLeft, "p>a q>a", first, pod("q", need.Cpu, need.Mem))
		give(t, l, 1)
		packed(t, l, 1, mostLeft, "q>a p>a", pod("q", need.Cpu, need.Mem), first)
		give(t, l, 1)
	}
	for _, need := range []api.Vec{of(5, 10), of(4, 11), of(5, 0), of(0, 11), of(6, 15)} {
		refused(t, l, 1, mostLeft, api.ErrRoom, first, pod("q", need.Cpu, need.Mem))
		refused(t, l, 1, mostLeft, api.ErrRoom, pod("q", need.Cpu, need.Mem), first)
	}
	packed(t, l, 1, mostLeft, "p>a q>a r>a s>a", first, pod("q", 2, 5), pod("r", 2, 5), pod("s", 0, 0))
	packed(t, l, 2, mostLeft, "p>a", pod("p", 0, 0)) // where all is used there is room for what needs nothing
	refused(t, l, 3, mostLeft, api.ErrRoom, pod("p", 1, 0))
	refused(t, l, 3, mostLeft, api.ErrRoom, pod("p", 0, 1))
}

// The ends of what a node may have.
func TestNothingAndMost(t *testing.T) {
	l := filled(t, node("a", 0, 0))
	packed(t, l, 1, mostLeft, "p>a q>a", pod("p", 0, 0), pod("q", 0, 0))
	refused(t, l, 2, mostLeft, api.ErrRoom, pod("p", 1, 0))
	refused(t, l, 2, mostLeft, api.ErrRoom, pod("p", 0, 1))
	l.Put(node("b", api.Most, api.Most))
	packed(t, l, 2, leastLeft, "p>b q>b r>b", pod("p", api.Most-1, 1), pod("q", 0, 0), pod("r", 1, api.Most-1))
	refused(t, l, 3, mostLeft, api.ErrRoom, pod("p", 1, 0))
	for _, name := range names[2:api.MaxNodes] {
		l.Put(node(name, api.Most, api.Most))
	}
	var all []api.Pod
	for _, name := range names[2:api.MaxNodes] {
		all = append(all, pod(name, api.Most, api.Most))
	}
	packed(t, l, 3, mostLeft, "c>c d>d e>e f>f g>g h>h", all...)
	packed(t, l, 4, fewestPods, "p>c", pod("p", 0, 0))
}

// Where nodes differ in each way, each mode has one of its own.
func TestModes(t *testing.T) {
	l := filled(t, node("a", 20, 20), node("b", 100, 100), node("c", 50, 50), node("d", 40, 40))
	for gang, x := range []struct {
		name string
		need int
	}{{"a", 0}, {"b", 10}, {"c", 1}, {"c", 1}, {"d", 30}} {
		take(t, l, gang+1, x.name, x.need, x.need)
	}
	take(t, l, 0, "a", 0, 0)
	// Of a, b, c, d 100, 90, 96, 25 hundredths are left, with 2 of each 90, 88, 92, 20; there stand 2, 1, 2, 1.
	p := pod("p", 2, 2)
	for mode, want := range map[int]string{mostLeft: "c", leastLeft: "d", fewestPods: "b", noMode: "a", -1: "a", most: "a", least: "a"} {
		packed(t, l, 6, mode, "p>"+want, p)
		give(t, l, 6)
	}
	packed(t, l, 6, fewestPods, "p>b q>d r>a s>b", pod("p", 0, 0), pod("q", 0, 0), pod("r", 0, 0), pod("s", 0, 0))
}

// Of nodes that are as good the one with the least name, by bytes, whatever order they came in.
func TestEquals(t *testing.T) {
	by := []string{"a", "aa", "ab", "b", "z", "α", "αa", "ω"}
	for turn := range by {
		order := slices.Concat(by[turn:], by[:turn])
		if turn%2 > 0 {
			slices.Reverse(order)
		}
		l := filled(t)
		for _, name := range order {
			l.Put(node(name, 10, 10))
		}
		for _, mode := range []int{mostLeft, leastLeft, fewestPods, noMode} {
			var pods []api.Pod
			want := ""
			for i, name := range by {
				pods = append(pods, alone(pod(string(rune('p'+i)), 1, 1)))
				want += " " + string(rune('p'+i)) + ">" + name
			}
			got, err := pack.Pack(l, 1, pods, mode)
			if err != api.OK || " "+short(got) != want {
				t.Errorf("P801: mode %d: %s, %v, want%s", mode, short(got), err, want)
			}
			give(t, l, 1)
		}
	}
}

// What other gangs have counts in room, in score and in how many stand there.
func TestOtherGangs(t *testing.T) {
	l := filled(t, node("a", 10, 10), node("b", 10, 10))
	take(t, l, 8, "a", 3, 3)
	packed(t, l, 1, mostLeft, "p>b", pod("p", 1, 1))
	packed(t, l, 2, leastLeft, "p>a", pod("p", 1, 1))
	packed(t, l, 3, fewestPods, "p>b q>a", pod("p", 1, 0), pod("q", 1, 0))
	give(t, l, 8)
	packed(t, l, 4, leastLeft, "p>a", pod("p", 8, 9))
	refused(t, l, 5, mostLeft, api.ErrRoom, pod("p", 9, 9))
	packed(t, l, 5, noMode, "p>b q>b r>a", pod("p", 3, 9), pod("q", 5, 0), pod("r", 0, 0))
	give(t, l, 4)
	packed(t, l, 6, noMode, "p>a", pod("p", 8, 9))
}
