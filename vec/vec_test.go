package vec_test

import (
	"math"
	"math/big"
	"testing"

	"joinery/api"
	"joinery/vec"
)

const (
	most  = math.MaxInt64
	least = math.MinInt64
)

func of(cpu, mem int) api.Vec { return api.Vec{Cpu: cpu, Mem: mem} }

func TestRight(t *testing.T) {
	for _, x := range []struct {
		v    api.Vec
		want bool
	}{
		{of(0, 0), true},
		{of(3, 4), true},
		{of(most, most), true},
		{of(-1, 0), false},
		{of(0, -1), false},
		{of(-1, -1), false},
		{of(-1, 7), false},
		{of(7, -1), false},
		{of(least, most), false},
		{of(most, least), false},
	} {
		if got := vec.Right(x.v); got != x.want {
			t.Errorf("P101: Right(%v) = %v, want %v", x.v, got, x.want)
		}
	}
}

type sum struct {
	a, b, want api.Vec
	err        api.Errno
}

func checkSums(t *testing.T, name string, f func(a, b api.Vec) (api.Vec, api.Errno), l []sum) {
	t.Helper()
	for _, x := range l {
		if got, err := f(x.a, x.b); got != x.want || err != x.err {
			t.Errorf("P101: %s(%v, %v) = %v, %v, want %v, %v", name, x.a, x.b, got, err, x.want, x.err)
		}
	}
}

func TestAdd(t *testing.T) {
	checkSums(t, "Add", vec.Add, []sum{
		{of(3, 4), of(10, 20), of(13, 24), api.OK},
		{of(10, 20), of(3, 4), of(13, 24), api.OK},
		{of(0, 0), of(0, 0), of(0, 0), api.OK},
		{of(most, most), of(0, 0), of(most, most), api.OK},
		{of(0, 0), of(most, most), of(most, most), api.OK},
		{of(most, 0), of(0, most), of(most, most), api.OK},
	})
}

func TestAddAtTheTop(t *testing.T) {
	checkSums(t, "Add", vec.Add, []sum{
		{of(most-1, 5), of(1, 6), of(most, 11), api.OK},
		{of(5, most-1), of(6, 1), of(11, most), api.OK},
		{of(1<<62, 0), of(1<<62-1, 0), of(most, 0), api.OK},
		{of(0, 1<<62), of(0, 1<<62-1), of(0, most), api.OK},
		{of(1<<62, 1), of(1<<62, 1), of(0, 0), api.ErrRoom},
		{of(1, 1<<62), of(1, 1<<62), of(0, 0), api.ErrRoom},
		{of(most, 1), of(1, 1), of(0, 0), api.ErrRoom},
		{of(1, most), of(1, 1), of(0, 0), api.ErrRoom},
		{of(1, 1), of(most, 1), of(0, 0), api.ErrRoom},
		{of(1, 1), of(1, most), of(0, 0), api.ErrRoom},
		{of(most, most), of(most, most), of(0, 0), api.ErrRoom},
	})
}

// Each row but the first four would be ErrRoom, too, by its other part: ErrArg is named first (P6).
func TestAddOfWhatIsNotRight(t *testing.T) {
	checkSums(t, "Add", vec.Add, []sum{
		{of(-1, 2), of(3, 4), of(0, 0), api.ErrArg},
		{of(1, -2), of(3, 4), of(0, 0), api.ErrArg},
		{of(1, 2), of(-3, 4), of(0, 0), api.ErrArg},
		{of(1, 2), of(3, -4), of(0, 0), api.ErrArg},
		{of(-1, most), of(0, 1), of(0, 0), api.ErrArg},
		{of(most, -1), of(1, 0), of(0, 0), api.ErrArg},
		{of(0, most), of(-1, 1), of(0, 0), api.ErrArg},
		{of(most, 0), of(1, -1), of(0, 0), api.ErrArg},
		{of(most, least), of(most, least), of(0, 0), api.ErrArg},
	})
}

func TestSub(t *testing.T) {
	checkSums(t, "Sub", vec.Sub, []sum{
		{of(13, 24), of(10, 20), of(3, 4), api.OK},
		{of(7, 9), of(0, 0), of(7, 9), api.OK},
		{of(7, 9), of(7, 9), of(0, 0), api.OK},
		{of(0, 0), of(0, 0), of(0, 0), api.OK},
		{of(most, most), of(most, most), of(0, 0), api.OK},
		{of(most, most), of(0, 1), of(most, most-1), api.OK},
	})
}

func TestSubOfMoreThanThereIs(t *testing.T) {
	checkSums(t, "Sub", vec.Sub, []sum{
		{of(7, 9), of(8, 9), of(0, 0), api.ErrRoom},
		{of(7, 9), of(7, 10), of(0, 0), api.ErrRoom},
		{of(7, 9), of(8, 1), of(0, 0), api.ErrRoom},
		{of(7, 9), of(1, 10), of(0, 0), api.ErrRoom},
		{of(0, 0), of(1, 1), of(0, 0), api.ErrRoom},
		{of(most-1, most), of(most, most), of(0, 0), api.ErrRoom},
		{of(0, most), of(most, 0), of(0, 0), api.ErrRoom},
	})
}

// The last four rows would be ErrRoom, too: ErrArg is named first (P6).
func TestSubOfWhatIsNotRight(t *testing.T) {
	checkSums(t, "Sub", vec.Sub, []sum{
		{of(5, 6), of(-1, 2), of(0, 0), api.ErrArg},
		{of(5, 6), of(1, -2), of(0, 0), api.ErrArg},
		{of(-5, 6), of(-5, 2), of(0, 0), api.ErrArg},
		{of(5, -6), of(1, -6), of(0, 0), api.ErrArg},
		{of(-1, 6), of(0, 0), of(0, 0), api.ErrArg},
		{of(5, -1), of(0, 0), of(0, 0), api.ErrArg},
		{of(5, 6), of(6, -1), of(0, 0), api.ErrArg},
		{of(least, 0), of(most, 0), of(0, 0), api.ErrArg},
	})
}

func TestFits(t *testing.T) {
	for _, x := range []struct {
		need, room api.Vec
		want       bool
	}{
		{of(1, 2), of(3, 4), true},
		{of(3, 4), of(3, 4), true},
		{of(0, 0), of(0, 0), true},
		{of(4, 4), of(3, 4), false},
		{of(3, 5), of(3, 4), false},
		{of(4, 1), of(3, 4), false},
		{of(1, 5), of(3, 4), false},
		{of(-4, -4), of(-3, -4), true},
		{of(-3, -4), of(-4, -4), false},
		{of(-4, -3), of(-4, -4), false},
		{of(0, 0), of(-1, 0), false},
		{of(least, least), of(most, most), true},
		{of(most, 0), of(least, 0), false},
		{of(0, most), of(0, least), false},
	} {
		if got := vec.Fits(x.need, x.room); got != x.want {
			t.Errorf("P101: Fits(%v, %v) = %v, want %v", x.need, x.room, got, x.want)
		}
	}
}

// edges are numbers at which a sum, a difference or a comparison may go wrong.
var edges = []int{least, least + 1, -(1 << 62), -2, -1, 0, 1, 2, api.Most, 1<<62 - 1, 1 << 62, most - 1, most}

func everyPair(f func(a, b api.Vec)) {
	for _, ac := range edges {
		for _, am := range edges {
			for _, bc := range edges {
				for _, bm := range edges {
					f(of(ac, am), of(bc, bm))
				}
			}
		}
	}
}

// exact is one part, worked out without wrap-round; false: it is no number from 0 to 2^63 - 1.
func exact(a, b int, op func(z, x, y *big.Int) *big.Int) (int, bool) {
	z := op(new(big.Int), big.NewInt(int64(a)), big.NewInt(int64(b)))
	if z.Sign() < 0 || !z.IsInt64() {
		return 0, false
	}
	return int(z.Int64()), true
}

func wanted(a, b api.Vec, op func(z, x, y *big.Int) *big.Int) (api.Vec, api.Errno) {
	if a.Cpu < 0 || a.Mem < 0 || b.Cpu < 0 || b.Mem < 0 {
		return api.Vec{}, api.ErrArg
	}
	cpu, ok1 := exact(a.Cpu, b.Cpu, op)
	mem, ok2 := exact(a.Mem, b.Mem, op)
	if !ok1 || !ok2 {
		return api.Vec{}, api.ErrRoom
	}
	return of(cpu, mem), api.OK
}

// Asked twice, since the same calls answer the same (P3).
func TestEveryPairOfEdges(t *testing.T) {
	everyPair(func(a, b api.Vec) {
		sum, sumErr := wanted(a, b, (*big.Int).Add)
		left, leftErr := wanted(a, b, (*big.Int).Sub)
		for range 2 {
			if got, err := vec.Add(a, b); got != sum || err != sumErr {
				t.Errorf("P101: Add(%v, %v) = %v, %v, want %v, %v", a, b, got, err, sum, sumErr)
			}
			if got, err := vec.Sub(a, b); got != left || err != leftErr {
				t.Errorf("P101: Sub(%v, %v) = %v, %v, want %v, %v", a, b, got, err, left, leftErr)
			}
			if got, want := vec.Fits(a, b), a.Cpu <= b.Cpu && a.Mem <= b.Mem; got != want {
				t.Errorf("P101: Fits(%v, %v) = %v, want %v", a, b, got, want)
			}
			if got, want := vec.Right(a), a.Cpu >= 0 && a.Mem >= 0; got != want {
				t.Errorf("P101: Right(%v) = %v, want %v", a, got, want)
			}
		}
	})
}

func TestWhatWasAddedIsTakenAgain(t *testing.T) {
	everyPair(func(a, b api.Vec) {
		s, err := vec.Add(a, b)
		if err != api.OK {
			return
		}
		if got, err := vec.Sub(s, b); got != a || err != api.OK {
			t.Errorf("P101: Sub(Add(%v, %v), %v) = %v, %v", a, b, b, got, err)
		}
	})
}
