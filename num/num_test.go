package num

import (
	"math"
	"math/big"
	"slices"
	"strconv"
	"testing"

	"buttery/api"
)

const (
	top    = math.MaxInt64
	bottom = math.MinInt64
)

// edges are numbers at which a sum, or one of its halves, may turn.
func edges() []int64 {
	return []int64{
		bottom, bottom + 1, bottom / 2, -1<<32 - 1, -1 << 32, -1<<31 - 1, -1 << 31,
		-5, -1, 0, 1, 5,
		1<<31 - 1, 1 << 31, 1<<32 - 1, 1 << 32, 1<<32 + 1, top / 2, top/2 + 1, top - 1, top,
	}
}

// sumOf is the sum by numbers without an end.
func sumOf(l ...int64) (int64, api.Errno) {
	sum := new(big.Int)
	for _, n := range l {
		sum.Add(sum, big.NewInt(n))
	}
	if !sum.IsInt64() {
		return 0, api.ErrOver
	}
	return sum.Int64(), api.OK
}

func checkAdd(t *testing.T, a, b int64) {
	t.Helper()
	want, wantErr := sumOf(a, b)
	if got, err := Add(a, b); got != want || err != wantErr {
		t.Errorf("Add(%d, %d) = %d, %d; want %d, %d", a, b, got, err, want, wantErr)
	}
}

func checkTotal(t *testing.T, l ...int64) {
	t.Helper()
	want, wantErr := sumOf(l...)
	if got, err := Total(l); got != want || err != wantErr {
		t.Errorf("Total(%d) = %d, %d; want %d, %d", l, got, err, want, wantErr)
	}
}

// repeat is n times the same number.
func repeat(x int64, n int) []int64 {
	return slices.Repeat([]int64{x}, n)
}

// steps is a list of n numbers of all sizes, always the same.
func steps(n int, seed uint64) []int64 {
	l := make([]int64, n)
	for i := range l {
		seed = seed*6364136223846793005 + 1442695040888963407
		l[i] = int64(seed) >> (seed >> 58)
	}
	return l
}

func TestP1_1AddOrdinary(t *testing.T) {
	for _, c := range []struct{ a, b, sum int64 }{
		{0, 0, 0}, {1, 2, 3}, {-1, 1, 0}, {7, -10, -3}, {-4, -6, -10}, {1 << 40, 1 << 40, 1 << 41},
	} {
		if got, err := Add(c.a, c.b); got != c.sum || err != api.OK {
			t.Errorf("Add(%d, %d) = %d, %d; want %d", c.a, c.b, got, err, c.sum)
		}
	}
}

func TestP1_1AddAtTheEnds(t *testing.T) {
	for _, c := range []struct {
		a, b, sum int64
		err       api.Errno
	}{
		{top, 0, top, api.OK},
		{top - 1, 1, top, api.OK},
		{top, 1, 0, api.ErrOver},
		{1, top, 0, api.ErrOver},
		{top, top, 0, api.ErrOver},
		{1 << 62, 1 << 62, 0, api.ErrOver},
		{bottom, 0, bottom, api.OK},
		{bottom + 1, -1, bottom, api.OK},
		{bottom, -1, 0, api.ErrOver},
		{-1, bottom, 0, api.ErrOver},
		{bottom, bottom, 0, api.ErrOver},
		{-1 << 62, -1 << 62, bottom, api.OK},
		{top, bottom, -1, api.OK},
		{bottom, top, -1, api.OK},
	} {
		if got, err := Add(c.a, c.b); got != c.sum || err != c.err {
			t.Errorf("Add(%d, %d) = %d, %d; want %d, %d", c.a, c.b, got, err, c.sum, c.err)
		}
	}
}

func TestP1_1AddIsTheSum(t *testing.T) {
	for _, a := range edges() {
		for _, b := range edges() {
			checkAdd(t, a, b)
		}
	}
	l := steps(2000, 1)
	for i := 1; i < len(l); i++ {
		checkAdd(t, l[i-1], l[i])
	}
}

func TestP1_2TotalOrdinary(t *testing.T) {
	for _, c := range []struct {
		l   []int64
		sum int64
	}{
		{nil, 0}, {[]int64{}, 0}, {[]int64{0}, 0}, {[]int64{-3}, -3},
		{[]int64{1, 2, 3}, 6}, {[]int64{5, -7}, -2}, {[]int64{1 << 32, -1, 1 << 31}, 1<<32 + 1<<31 - 1},
	} {
		if got, err := Total(c.l); got != c.sum || err != api.OK {
			t.Errorf("Total(%d) = %d, %d; want %d", c.l, got, err, c.sum)
		}
	}
}

func TestP1_2TotalAtTheEnds(t *testing.T) {
	for _, c := range []struct {
		l   []int64
		sum int64
		err api.Errno
	}{
		{[]int64{top}, top, api.OK},
		{[]int64{bottom}, bottom, api.OK},
		{[]int64{top, 1}, 0, api.ErrOver},
		{[]int64{bottom, -1}, 0, api.ErrOver},
		{[]int64{bottom, bottom}, 0, api.ErrOver},
		{[]int64{top, top, 2}, 0, api.ErrOver},
		{[]int64{top, top, top, top, 4}, 0, api.ErrOver},
		{[]int64{top, bottom}, -1, api.OK},
	} {
		if got, err := Total(c.l); got != c.sum || err != c.err {
			t.Errorf("Total(%d) = %d, %d; want %d, %d", c.l, got, err, c.sum, c.err)
		}
	}
}

func TestP1_2TotalWhateverSomeAre(t *testing.T) {
	for _, c := range []struct {
		l   []int64
		sum int64
	}{
		{[]int64{top, 1, -5}, top - 4},
		{[]int64{1, top, -5}, top - 4},
		{[]int64{-5, 1, top}, top - 4},
		{[]int64{bottom, -1, 1}, bottom},
		{[]int64{top, top, bottom, bottom, 2}, 0},
		{[]int64{bottom, bottom, top, top}, -2},
	} {
		if got, err := Total(c.l); got != c.sum || err != api.OK {
			t.Errorf("Total(%d) = %d, %d; want %d", c.l, got, err, c.sum)
		}
	}
	// Far beyond each end, and back.
	far := slices.Concat(repeat(top, 1000), repeat(bottom, 1000), repeat(1, 1000))
	checkTotal(t, far...)
	slices.Reverse(far)
	checkTotal(t, far...)
}

func TestP1_2TotalIsTheSum(t *testing.T) {
	for _, a := range edges() {
		for _, b := range edges() {
			checkTotal(t, a, b)
			for _, c := range edges() {
				checkTotal(t, a, b, c)
				checkTotal(t, a, b, c, top)
				checkTotal(t, a, b, c, bottom)
			}
		}
	}
	for n := range 200 {
		l := steps(n, uint64(n))
		checkTotal(t, l...)
		half, _ := Total(l)
		checkTotal(t, append(l, -half)...)
	}
	checkTotal(t, repeat(lowerHalf, 1<<16)...)
	checkTotal(t, repeat(-1, 1<<16)...)
}

func TestP1_2TotalOfManyRunsOver(t *testing.T) {
	// 4, 1024 and 65536 times such a number wrap round to 0, and are none.
	for _, n := range []int{4, 1 << 10, 1 << 16} {
		for _, x := range []int64{1 << 62, -1 << 62, bottom} {
			if got, err := Total(repeat(x, n)); got != 0 || err != api.ErrOver {
				t.Errorf("Total of %d times %d = %d, %d", n, x, got, err)
			}
		}
	}
}

func TestP1_2TotalOfTooMany(t *testing.T) {
	if strconv.IntSize < 64 || testing.Short() {
		t.Skip("the list takes 8 GiB of addresses")
	}
	// Pages that are only read take no room, so the list is cheap as long as it is nearly all zeros.
	l := make([]int64, 1<<30+1)
	l[0], l[1<<30-1] = top, -7
	if got, err := Total(l[:1<<30]); got != top-7 || err != api.OK {
		t.Errorf("Total of 2^30 numbers = %d, %d", got, err)
	}
	if got, err := Total(l); got != 0 || err != api.ErrLong {
		t.Errorf("Total of 2^30 + 1 numbers = %d, %d", got, err)
	}
	// It is too long first, and too great only then.
	l[1] = top
	if got, err := Total(l); got != 0 || err != api.ErrLong {
		t.Errorf("Total of 2^30 + 1 numbers that are too great = %d, %d", got, err)
	}
}

func TestP1_2TotalChangesNothing(t *testing.T) {
	l := []int64{top, 1, -5, 9, 9}
	whole := slices.Clone(l)
	for n := range l {
		Total(l[:n])
		if !slices.Equal(l, whole) {
			t.Fatalf("Total of the first %d made %d of %d", n, l, whole)
		}
	}
}
