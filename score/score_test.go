package score_test

import (
	"math"
	"math/big"
	"slices"
	"testing"

	"joinery/api"
	"joinery/score"
	"joinery/vec"
)

const (
	most  = math.MaxInt64
	least = math.MinInt64
)

func of(cpu, mem int) api.Vec { return api.Vec{Cpu: cpu, Mem: mem} }

// asked is what Left is asked with.
type asked struct{ cap, used, need api.Vec }

// allowed fails the test if Left is not promised for what is asked.
func (a asked) allowed(t *testing.T) {
	t.Helper()
	bound := of(api.Most, api.Most)
	sum, err := vec.Add(a.used, a.need)
	if !vec.Right(a.cap) || !vec.Fits(a.cap, bound) || err != api.OK || !vec.Fits(sum, a.cap) {
		t.Fatalf("the test asks for what may not be: %+v", a)
	}
}

// left asks twice, since the same calls answer the same (P3).
func left(t *testing.T, a asked, want int) {
	t.Helper()
	a.allowed(t)
	for range 2 {
		if got := score.Left(a.cap, a.used, a.need); got != want {
			t.Fatalf("P601: Left(%v, %v, %v) = %d, want %d", a.cap, a.used, a.need, got, want)
		}
	}
}

// rows are what Left is asked with, and what it tells.
var rows = []struct {
	asked
	left int
}{
	{asked{of(10, 10), of(3, 4), of(2, 1)}, 50 + 50},
	{asked{of(10, 20), of(1, 1), of(2, 3)}, 70 + 80},
	{asked{of(20, 10), of(1, 1), of(3, 2)}, 80 + 70},
	{asked{of(1000, 100), of(0, 0), of(1, 1)}, 99 + 99},
	{asked{of(0, 10), of(0, 3), of(0, 2)}, 100 + 50}, // one has nothing to begin with
	{asked{of(10, 0), of(3, 0), of(2, 0)}, 50 + 100},
	{asked{of(0, 10), of(0, 10), of(0, 0)}, 100 + 0},
	{asked{of(10, 0), of(0, 0), of(10, 0)}, 0 + 100},
	{asked{of(0, 10), of(0, 0), of(0, 0)}, 200},
	{asked{of(10, 0), of(0, 0), of(0, 0)}, 200},
	{asked{of(0, 0), of(0, 0), of(0, 0)}, 200},
	{asked{of(0, api.Most), of(0, 0), of(0, 0)}, 200},
	{asked{of(api.Most, 0), of(api.Most, 0), of(0, 0)}, 100},
	{asked{of(10, 20), of(0, 0), of(0, 0)}, 200}, // nothing used, nothing needed
	{asked{of(1, 1), of(0, 0), of(0, 0)}, 200},
	{asked{of(10, 20), of(0, 0), of(4, 5)}, 60 + 75},
	{asked{of(10, 20), of(4, 5), of(0, 0)}, 60 + 75},
	{asked{of(10, 20), of(10, 20), of(0, 0)}, 0}, // all used up, all needed
	{asked{of(10, 20), of(0, 0), of(10, 20)}, 0},
	{asked{of(1, 1), of(1, 0), of(0, 1)}, 0},
	{asked{of(10, 20), of(4, 5), of(6, 15)}, 0}, // just fits in both, in one
	{asked{of(10, 20), of(4, 5), of(6, 5)}, 0 + 50},
	{asked{of(10, 20), of(4, 5), of(1, 15)}, 50 + 0},
	{asked{of(10, 20), of(10, 0), of(0, 19)}, 0 + 5},
	{asked{of(3, 3), of(1, 0), of(0, 2)}, 66 + 33}, // rounded down
	{asked{of(3, 7), of(1, 0), of(1, 2)}, 33 + 71},
	{asked{of(3, 3), of(0, 1), of(1, 0)}, 66 + 66}, // of each part, not of both together
	{asked{of(7, 7), of(3, 3), of(3, 3)}, 14 + 14},
	{asked{of(8, 8), of(3, 3), of(4, 4)}, 12 + 12},
	{asked{of(101, 101), of(100, 50), of(0, 50)}, 0 + 0},
	{asked{of(101, 100), of(50, 50), of(50, 49)}, 0 + 1},
	{asked{of(99, 98), of(98, 0), of(0, 97)}, 1 + 1},
	{asked{of(101, 101), of(1, 0), of(0, 1)}, 99 + 99},
	{asked{of(6, 6), of(5, 1), of(0, 0)}, 16 + 83},
	{asked{of(api.Most, api.Most), of(0, 0), of(0, 0)}, 200}, // the most that a part is
	{asked{of(api.Most, api.Most), of(0, 0), of(1, 1)}, 99 + 99},
	{asked{of(api.Most, api.Most), of(1, 0), of(0, 1)}, 99 + 99},
	{asked{of(api.Most, api.Most), of(api.Most, 0), of(0, api.Most)}, 0},
	{asked{of(api.Most, api.Most), of(api.Most-1, 0), of(1, 0)}, 0 + 100},
	{asked{of(api.Most, api.Most), of(0, api.Most-1), of(0, 1)}, 100 + 0},
	{asked{of(api.Most, api.Most), of(api.Most/2, api.Most/4), of(0, 0)}, 50 + 75},
	{asked{of(api.Most, api.Most), of(api.Most/2, api.Most/4), of(1, 1)}, 49 + 74},
	{asked{of(api.Most-1, api.Most-1), of(api.Most-2, 0), of(0, 0)}, 0 + 100},
	{asked{of(1, api.Most), of(0, api.Most/2), of(1, api.Most/2-1)}, 0 + 0},
	{asked{of(1<<32, 1<<31), of(1<<31, 1<<30), of(1<<30, 0)}, 25 + 50},
}

func TestLeft(t *testing.T) {
	for _, x := range rows {
		left(t, x.asked, x.left)
	}
}

// hundredths counts up to the greatest number of hundredths of whole that are not more than what is left.
func hundredths(whole, used, need int) int {
	if whole == 0 {
		return 100
	}
	have := big.NewInt(int64(whole - used - need))
	have.Mul(have, big.NewInt(100))
	n := 0
	for have.Sub(have, big.NewInt(int64(whole))); have.Sign() >= 0; have.Sub(have, big.NewInt(int64(whole))) {
		n++
	}
	return n
}

// Every choice of small numbers: whatever one part is, the other one is by itself.
func TestEveryLeft(t *testing.T) {
	var parts [][3]int
	for whole := range 12 {
		for used := range whole + 1 {
			for need := range whole - used + 1 {
				parts = append(parts, [3]int{whole, used, need})
			}
		}
	}
	counted := make([]int, len(parts))
	for i, x := range parts {
		counted[i] = hundredths(x[0], x[1], x[2])
	}
	for i, x := range parts {
		for j, y := range parts {
			left(t, asked{of(x[0], y[0]), of(x[1], y[1]), of(x[2], y[2])}, counted[i]+counted[j])
		}
	}
}

// One beside each bound at which a hundredth more is left, for wholes of every size up to the most.
func TestBoundsOfHundredths(t *testing.T) {
	for _, whole := range []int{1, 2, 3, 7, 99, 100, 101, 255, 256, 1000, 65537, 1<<31 - 1, 1 << 31, 1<<32 + 1, 92233720369, api.Most/3 + 1, api.Most - 1, api.Most} {
		for n := range 101 {
			bound := (n*whole + 99) / 100 // the least that has n hundredths
			for _, have := range []int{bound - 1, bound, bound + 1} {
				if have < 0 || have > whole {
					continue
				}
				gone := whole - have
				want := hundredths(whole, gone, 0)
				left(t, asked{of(whole, 0), of(gone, 0), of(0, 0)}, want+100)
				left(t, asked{of(0, whole), of(0, 0), of(0, gone)}, want+100)
				left(t, asked{of(whole, whole), of(gone/2, gone), of(gone-gone/2, 0)}, 2*want)
			}
		}
	}
}

// rate asks twice, since the same calls answer the same (P3).
func rate(t *testing.T, mode int, a asked, pods, want int) {
	t.Helper()
	a.allowed(t)
	for range 2 {
		if got := score.Score(mode, a.cap, a.used, a.need, pods); got != want {
			t.Fatalf("P602: Score(%d, %v, %v, %v, %d) = %d, want %d", mode, a.cap, a.used, a.need, pods, got, want)
		}
	}
}

var somePods = []int{0, 1, 2, 7, 8, 100, 199, 200, 201, 500, 999, 1000}

func TestScore(t *testing.T) {
	for _, x := range rows {
		for _, pods := range somePods {
			rate(t, 0, x.asked, pods, x.left)
			rate(t, 1, x.asked, pods, 200-x.left)
			rate(t, 2, x.asked, pods, 1000-pods)
		}
	}
}

func TestEveryCountOfPods(t *testing.T) {
	a := asked{of(3, 7), of(1, 0), of(1, 2)}
	for pods := range 1001 {
		rate(t, 0, a, pods, 104)
		rate(t, 1, a, pods, 96)
		rate(t, 2, a, pods, 1000-pods)
	}
}

// Any other mode: the neighbours of those that there are, ones that have their low bits, the least and the greatest number.
func TestNoSuchMode(t *testing.T) {
	for _, mode := range []int{-1, -2, -3, 3, 4, 5, 100, 255, 256, 257, 258, 1 << 16, 1<<32 + 1, 1<<32 + 2, 1 << 32, -1 << 32, -1<<32 + 1, least, least + 1, least + 2, most, most - 1} {
		for _, x := range rows {
			for _, pods := range somePods {
				rate(t, mode, x.asked, pods, 0)
			}
		}
	}
	for mode := -300; mode <= 300; mode++ {
		if mode < 0 || mode > 2 {
			rate(t, mode, asked{of(3, 7), of(1, 0), of(1, 2)}, 7, 0)
		}
	}
}

// The document's example, with no list and an empty one, which are the same (P2).
func TestBestOfNone(t *testing.T) {
	for _, names := range [][]string{nil, {}, make([]string, 0, 4)} {
		for _, scores := range [][]int{nil, {}, make([]int, 0, 4)} {
			best(t, names, scores, -1)
		}
	}
}

// best asks twice, since the same calls answer the same (P3).
func best(t *testing.T, names []string, scores []int, want int) {
	t.Helper()
	for range 2 {
		if got := score.Best(names, scores); got != want {
			t.Fatalf("P603: Best(%q, %v) = %d, want %d", names, scores, got, want)
		}
	}
}

func TestBest(t *testing.T) {
	for _, x := range []struct {
		names  []string
		scores []int
		want   int
	}{
		{[]string{"a"}, []int{7}, 0}, // one
		{[]string{"a"}, []int{0}, 0},
		{[]string{"a"}, []int{-1}, 0},
		{[]string{"a"}, []int{least}, 0},
		{[]string{"a"}, []int{most}, 0},
		{[]string{""}, []int{0}, 0},
		{[]string{"a", "b", "c"}, []int{3, 2, 1}, 0}, // different scores
		{[]string{"a", "b", "c"}, []int{1, 3, 2}, 1},
		{[]string{"a", "b", "c"}, []int{1, 2, 3}, 2},
		{[]string{"c", "b", "a"}, []int{3, 2, 1}, 0},
		{[]string{"c", "b", "a"}, []int{1, 2, 3}, 2},
		{[]string{"a", "a", "a"}, []int{1, 3, 2}, 1},
		{[]string{"a", "b", "c"}, []int{3, 3, 3}, 0}, // the same score: names that rise, fall
		{[]string{"c", "b", "a"}, []int{3, 3, 3}, 2},
		{[]string{"b", "a", "c"}, []int{3, 3, 3}, 1},
		{[]string{"b", "c", "a"}, []int{3, 3, 3}, 2},
		{[]string{"b", "a", "c"}, []int{0, 0, 0}, 1},
		{[]string{"b", "a", "c"}, []int{-4, -4, -4}, 1},
		{[]string{"a", "c", "b"}, []int{1, 3, 3}, 2}, // the least name of these, not of all
		{[]string{"a", "b", "c"}, []int{2, 3, 3}, 1},
		{[]string{"c", "a", "b"}, []int{3, 2, 3}, 2},
		{[]string{"b", "a", "b"}, []int{3, 2, 3}, 0},
		{[]string{"b", "b", "a"}, []int{3, 3, 2}, 0},
		{[]string{"a", "a", "a"}, []int{3, 3, 3}, 0}, // the same name
		{[]string{"b", "a", "a"}, []int{3, 3, 3}, 1},
		{[]string{"b", "a", "b", "a"}, []int{3, 3, 3, 3}, 1},
		{[]string{"a", "a", "a"}, []int{2, 3, 3}, 1},
		{[]string{"a", "b", "a", "a"}, []int{2, 3, 3, 3}, 2},
		{[]string{"a", "b"}, []int{-5, -4}, 1}, // below 0
		{[]string{"a", "b"}, []int{-4, -5}, 0},
		{[]string{"a", "b", "c"}, []int{-1, 0, -2}, 1},
		{[]string{"a", "b", "c"}, []int{-3, -2, -1}, 2},
		{[]string{"a", "b"}, []int{least, most}, 1}, // whose difference is no number
		{[]string{"a", "b"}, []int{most, least}, 0},
		{[]string{"a", "b"}, []int{least, least + 1}, 1},
		{[]string{"a", "b"}, []int{most - 1, most}, 1},
		{[]string{"b", "a"}, []int{least, least}, 1},
		{[]string{"b", "a"}, []int{most, most}, 1},
		{[]string{"a", "a"}, []int{least, least}, 0},
		{[]string{"a", "b", "c"}, []int{least, 0, most}, 2},
		{[]string{"a", "b", "c"}, []int{-1, least, 1}, 2},
		{[]string{"a", "b"}, []int{1 << 32, 1<<32 + 1}, 1},
		{[]string{"a", "b"}, []int{1, 1 << 32}, 1},
		{[]string{"a", ""}, []int{3, 3}, 1}, // no name at all, the least of them
		{[]string{"", "a"}, []int{3, 3}, 0},
		{[]string{"", ""}, []int{3, 3}, 0},
		{[]string{"a", "", "b", ""}, []int{3, 3, 3, 3}, 1},
		{[]string{"\x00", ""}, []int{3, 3}, 1},
		{[]string{"", "a"}, []int{3, 4}, 1},
		{[]string{"ab", "a"}, []int{3, 3}, 1}, // by bytes
		{[]string{"a", "ab"}, []int{3, 3}, 0},
		{[]string{"b", "ab"}, []int{3, 3}, 1},
		{[]string{"a2", "a10"}, []int{3, 3}, 1},
		{[]string{"a", "B"}, []int{3, 3}, 1},
		{[]string{"α", "z"}, []int{3, 3}, 1},
		{[]string{"ω", "α"}, []int{3, 3}, 1},
		{[]string{"\xff", "α"}, []int{3, 3}, 1}, // bytes of no rune
		{[]string{"\xff", "\xfe"}, []int{3, 3}, 1},
		{[]string{"\xfe", "\xff"}, []int{3, 3}, 0},
		{[]string{"\uffff", "\xff"}, []int{3, 3}, 0},
		{[]string{"\ufffd", "\x80"}, []int{3, 3}, 1},
		{[]string{"\x80", "\ufffd"}, []int{3, 3}, 0},
		{[]string{"a\xff", "a\xce"}, []int{3, 3}, 1},
		{[]string{"aα", "a\xce"}, []int{3, 3}, 1},
		{[]string{"\xff", "\xff"}, []int{3, 3}, 0},
		{[]string{"\xff", "a"}, []int{4, 3}, 0},
	} {
		best(t, x.names, x.scores, x.want)
	}
}

// Every list of up to five, of three names and three scores, held against one that is sorted.
func TestEveryBest(t *testing.T) {
	someNames := []string{"", "a", "α"}
	someScores := []int{least, -1, most}
	var each func(names []string, scores []int)
	each = func(names []string, scores []int) {
		best(t, names, scores, firstSorted(names, scores))
		if len(names) == 5 {
			return
		}
		for _, n := range someNames {
			for _, s := range someScores {
				each(append(names, n), append(scores, s))
			}
		}
	}
	each(nil, nil)
}

// firstSorted is the place of the one that stands first by greatest score, least name, least place.
func firstSorted(names []string, scores []int) int {
	var places []int
	for i := range names {
		places = append(places, i)
	}
	slices.SortStableFunc(places, func(i, j int) int {
		switch {
		case scores[i] > scores[j], scores[i] == scores[j] && names[i] < names[j]:
			return -1
		case scores[i] < scores[j], names[i] > names[j]:
			return 1
		}
		return 0
	})
	return append(places, -1)[0]
}

// Of many, the best one wherever it stands.
func TestBestOfMany(t *testing.T) {
	const many = 1000
	names, scores := make([]string, many), make([]int, many)
	for i := range many {
		names[i] = "n"
	}
	for i := range many {
		scores[i] = 1
		best(t, names, scores, i)
		scores[i] = 0
		names[i] = "m"
		best(t, names, scores, i)
		names[i] = "n"
	}
}

// What is handed in, its spare room too, is as it was (P2); what lies in the spare room is not looked at.
func TestHandedIn(t *testing.T) {
	names := []string{"c", "b", "b", "a", "a"}
	scores := []int{3, 3, 3, 9, most}
	for n := range len(names) + 1 {
		room, numbers := slices.Clone(names), slices.Clone(scores)
		best(t, room[:n], numbers[:n], firstSorted(names[:n], scores[:n]))
		if !slices.Equal(room, names) || !slices.Equal(numbers, scores) {
			t.Errorf("P2: Best changed what was handed in: %q, %v", room, numbers)
		}
	}
}

// Nothing is kept (P2): what is asked ahead, or written later to what was handed in, is not to be seen.
func TestNothingKept(t *testing.T) {
	names, scores := []string{"b", "a"}, []int{3, 3}
	best(t, names, scores, 1)
	names[1] = "c"
	best(t, names, scores, 0)
	scores[1] = 4
	best(t, names, scores, 1)
	best(t, nil, nil, -1)
	best(t, []string{"z"}, []int{least}, 0)
	for _, mode := range []int{2, 0, 9, 1, 0, 2, -1, 1} {
		a := asked{of(10, 20), of(4, 5), of(1, 0)}
		rate(t, mode, a, 7, map[int]int{0: 125, 1: 75, 2: 993}[mode])
	}
}

// What may not be handed in: the calls end, and change nothing (P8).
func TestWhatMayNotBe(t *testing.T) {
	parts := []int{least, least + 1, -api.Most, -100, -1, 0, 1, 3, 100, api.Most, api.Most + 1, most / 100, most/100 + 1, most - 1, most}
	var vecs []api.Vec
	for i, p := range parts {
		vecs = append(vecs, of(p, p), of(p, parts[len(parts)-1-i]), of(0, p), of(p, 0))
	}
	for _, c := range vecs {
		for _, u := range vecs {
			for _, n := range vecs {
				score.Left(c, u, n)
				for mode := -1; mode <= 3; mode++ {
					score.Score(mode, c, u, n, c.Cpu)
				}
			}
		}
	}
}

func TestListsOfTwoLengths(t *testing.T) {
	names := []string{"d", "c", "b", "a"}
	scores := []int{1, 2, 3, 4}
	for i := range len(names) + 1 {
		for j := range len(scores) + 1 {
			room, numbers := slices.Clone(names), slices.Clone(scores)
			score.Best(room[:i:i], numbers[:j:j])
			if !slices.Equal(room, names) || !slices.Equal(numbers, scores) {
				t.Errorf("P2: Best changed what was handed in: %q, %v", room, numbers)
			}
		}
	}
}
