package vec

import (
	"maps"
	"math"
	"slices"
	"testing"

	"buttery/api"
)

// below are numbers below 0.
var below = []int{-1, -2, -7, -api.MaxSeq, math.MinInt32, math.MinInt + 1, math.MinInt}

// above are numbers above 0, such as are above MaxSeq too.
var above = []int{1, 2, 3, api.MaxSeq - 1, api.MaxSeq, api.MaxSeq + 1, math.MaxInt32, math.MaxInt - 1, math.MaxInt}

// said is what a vector says, by the nodes of which it says more than none.
func said(v api.Vec) map[int]int {
	m := map[int]int{}
	for node, n := range v {
		if n > 0 {
			m[node] = n
		}
	}
	return m
}

// trimmedOf writes down in its trimmed form what is said.
func trimmedOf(m map[int]int) api.Vec {
	var v api.Vec
	for node, n := range m {
		for len(v) <= node {
			v = append(v, 0)
		}
		v[node] = n
	}
	return v
}

// joined is what one of two says, of each node what says more.
func joined(a, b map[int]int) map[int]int {
	m := maps.Clone(a)
	for node, n := range b {
		if m[node] < n {
			m[node] = n
		}
	}
	return m
}

// met is what both say.
func met(a, b map[int]int) map[int]int {
	m := map[int]int{}
	for node, n := range a {
		if other, there := b[node]; there {
			m[node] = min(n, other)
		}
	}
	return m
}

// isWithin tells whether nothing that a says goes beyond b.
func isWithin(a, b map[int]int) bool {
	for node, n := range a {
		if n > b[node] {
			return false
		}
	}
	return true
}

// rows are all vectors of at most so many of these numbers.
func rows(most int, numbers ...int) []api.Vec {
	l := []api.Vec{nil}
	for from := 0; most > 0; most-- {
		end := len(l)
		for _, v := range l[from:end] {
			for _, n := range numbers {
				l = append(l, append(slices.Clone(v), n))
			}
		}
		from = end
	}
	return l
}

// odd are vectors of great numbers, of many, and of none.
func odd() []api.Vec {
	l := []api.Vec{
		{},
		{math.MaxInt},
		{math.MinInt},
		{math.MinInt, math.MaxInt, math.MinInt},
		{math.MaxInt, math.MinInt, math.MaxInt},
		{math.MaxInt - 1, api.MaxSeq + 1, math.MinInt + 1},
		{0, 0, 0, 0, 0, 0, 0, api.MaxSeq},
		{0, 0, 0, 0, 0, 0, 0, 0, 1},
		{1, 2, 3, 4, 5, 6, 7, 8, 9, 10, 11},
		{11, 10, 9, 8, 7, 6, 5, 4, 3, 2, 1},
		{0, 0, 0, 0, 0, 0, 0, 0, 0, 0},
		{5, -1, -2, -3, -4, -5, -6, -7, -8, -9},
		{-1, -1, -1, -1, -1, -1, -1, -1, -1, 4, -1, 0},
		make(api.Vec, 3000),
		some(8, 1),
		some(20, 2),
		some(3000, 3),
		some(2999, 4),
	}
	for _, n := range slices.Concat(below, above) {
		l = append(l, api.Vec{n}, api.Vec{0, n}, api.Vec{n, 0, 3}, api.Vec{2, n, 0, -4})
	}
	return l
}

// some is n numbers of all kinds, always the same for n and seed.
func some(n int, seed uint32) api.Vec {
	v := make(api.Vec, n)
	state := uint32(n)*7919 + seed
	for i := range v {
		state = state*1664525 + 1013904223
		v[i] = int(int32(state)) >> (state >> 3 % 32)
	}
	return v
}

// vectors are short ones of all kinds, and odd ones.
func vectors() []api.Vec {
	return append(rows(4, -3, 0, 1, 2), odd()...)
}

// same tells whether two have the same numbers, a list that is nil like an empty one.
func same(a, b api.Vec) bool {
	return len(a) == len(b) && (len(a) == 0 || slices.Equal(a, b))
}

func checkAt(t *testing.T, v api.Vec, node, want int) {
	t.Helper()
	if got := At(v, node); got != want {
		t.Errorf("At(%.20v, %d) = %d; want %d", v, node, got, want)
	}
}

func checkTrim(t *testing.T, v, want api.Vec) {
	t.Helper()
	if got := Trim(v); !same(got, want) {
		t.Errorf("Trim(%.20v) = %.20v; want %.20v", v, got, want)
	}
}

func checkWith(t *testing.T, v api.Vec, node, n int, want api.Vec) {
	t.Helper()
	if got, err := With(v, node, n); err != api.OK || !same(got, want) {
		t.Errorf("With(%.20v, %d, %d) = %.20v, %d; want %.20v, 0", v, node, n, got, err, want)
	}
}

func checkRefused(t *testing.T, v api.Vec, node, n int) {
	t.Helper()
	if got, err := With(v, node, n); err != api.ErrArg || len(got) > 0 {
		t.Errorf("With(%.20v, %d, %d) = %.20v, %d; want nothing, %d", v, node, n, got, err, api.ErrArg)
	}
}

func checkJoin(t *testing.T, a, b, want api.Vec) {
	t.Helper()
	if got := Join(a, b); !same(got, want) {
		t.Errorf("Join(%.20v, %.20v) = %.20v; want %.20v", a, b, got, want)
	}
}

func checkMeet(t *testing.T, a, b, want api.Vec) {
	t.Helper()
	if got := Meet(a, b); !same(got, want) {
		t.Errorf("Meet(%.20v, %.20v) = %.20v; want %.20v", a, b, got, want)
	}
}

func checkWithin(t *testing.T, a, b api.Vec, want bool) {
	t.Helper()
	if got := Within(a, b); got != want {
		t.Errorf("Within(%.20v, %.20v) = %t; want %t", a, b, got, want)
	}
}

func checkHas(t *testing.T, v api.Vec, d api.Dot, want bool) {
	t.Helper()
	if got := Has(v, d); got != want {
		t.Errorf("Has(%.20v, %+v) = %t; want %t", v, d, got, want)
	}
}

func TestP7_1AtKnown(t *testing.T) {
	v := api.Vec{1, 0, 5, -2, math.MaxInt}
	for node, want := range []int{1, 0, 5, 0, math.MaxInt, 0, 0, 0, 0, 0} {
		checkAt(t, v, node, want)
	}
}

func TestP7_1AtNoNode(t *testing.T) {
	for _, v := range []api.Vec{nil, {}, {7}, {7, 8, 9}, {-7, -8}, some(100, 1), make(api.Vec, 3, 90)} {
		for _, node := range below {
			checkAt(t, v, node, 0)
		}
		for _, node := range []int{len(v), len(v) + 1, len(v) + 50, api.MaxSeq, math.MaxInt32, math.MaxInt - 1, math.MaxInt} {
			checkAt(t, v, node, 0)
		}
	}
}

func TestP7_1AtBehindTheEndInSpareRoom(t *testing.T) {
	whole := api.Vec{4, 5, 6, 7}
	checkAt(t, whole[:2], 1, 5)
	checkAt(t, whole[:2], 2, 0)
	checkAt(t, whole[:0], 0, 0)
}

func TestP7_1AtEachNode(t *testing.T) {
	for _, v := range vectors() {
		m := said(v)
		for node := -2; node < len(v)+3; node++ {
			checkAt(t, v, node, m[node])
		}
	}
}

func TestP7_1TrimKnown(t *testing.T) {
	checkTrim(t, nil, nil)
	checkTrim(t, api.Vec{}, nil)
	checkTrim(t, api.Vec{0}, nil)
	checkTrim(t, api.Vec{0, 0, 0}, nil)
	checkTrim(t, api.Vec{-1}, nil)
	checkTrim(t, api.Vec{-1, 0, math.MinInt}, nil)
	checkTrim(t, api.Vec{1}, api.Vec{1})
	checkTrim(t, api.Vec{1, 0}, api.Vec{1})
	checkTrim(t, api.Vec{1, 0, 5}, api.Vec{1, 0, 5})
	checkTrim(t, api.Vec{1, 0, 5, 0, 0}, api.Vec{1, 0, 5})
	checkTrim(t, api.Vec{1, -4, 5, -3, -9}, api.Vec{1, 0, 5})
	checkTrim(t, api.Vec{-1, -4, 5, 0, -9}, api.Vec{0, 0, 5})
	checkTrim(t, api.Vec{0, 0, math.MaxInt}, api.Vec{0, 0, math.MaxInt})
	checkTrim(t, api.Vec{1, 2, 3, 4, 5, 6, 7, 8, 9, 10}, api.Vec{1, 2, 3, 4, 5, 6, 7, 8, 9, 10})
	checkTrim(t, append(make(api.Vec, 100), 1, -1), append(make(api.Vec, 100), 1))
}

func TestP7_1TrimSaysTheSame(t *testing.T) {
	for _, v := range vectors() {
		got := Trim(v)
		checkTrim(t, v, trimmedOf(said(v)))
		checkTrim(t, got, got)
		for node := -2; node < len(v)+3; node++ {
			checkAt(t, got, node, At(v, node))
		}
	}
}

func TestP7_1SameIfTheyAreTrimmedTheSame(t *testing.T) {
	l := rows(3, -3, 0, 1, 2)
	for _, a := range l {
		for _, b := range l {
			alike := true
			for node := range 5 {
				alike = alike && At(a, node) == At(b, node)
			}
			if same(Trim(a), Trim(b)) != alike {
				t.Errorf("%v and %v: trimmed %v and %v", a, b, Trim(a), Trim(b))
			}
		}
	}
}

func TestP7_1WithKnown(t *testing.T) {
	checkWith(t, nil, 0, 0, nil)
	checkWith(t, nil, 7, 0, nil)
	checkWith(t, nil, 0, 1, api.Vec{1})
	checkWith(t, api.Vec{}, 2, 9, api.Vec{0, 0, 9})
	checkWith(t, nil, 7, api.MaxSeq, api.Vec{0, 0, 0, 0, 0, 0, 0, 1 << 30})
	checkWith(t, api.Vec{1, 0, 5}, 1, 2, api.Vec{1, 2, 5})
	checkWith(t, api.Vec{1, 0, 5}, 0, 2, api.Vec{2, 0, 5})
	checkWith(t, api.Vec{1, 0, 5}, 2, 4, api.Vec{1, 0, 4})
	checkWith(t, api.Vec{1, 0, 5}, 2, 0, api.Vec{1})
	checkWith(t, api.Vec{0, 0, 5}, 2, 0, nil)
	checkWith(t, api.Vec{1, 0, 5}, 0, 0, api.Vec{0, 0, 5})
	checkWith(t, api.Vec{1, 0, 5}, 3, 6, api.Vec{1, 0, 5, 6})
	checkWith(t, api.Vec{1, 0, 5}, 5, 6, api.Vec{1, 0, 5, 0, 0, 6})
	checkWith(t, api.Vec{1, 0, 5}, 5, 0, api.Vec{1, 0, 5})
	checkWith(t, api.Vec{1, 0, 5, 0, 0}, 1, 0, api.Vec{1, 0, 5})
}

func TestP7_1WithNumbersThatSayNone(t *testing.T) {
	checkWith(t, api.Vec{-1}, 0, 3, api.Vec{3})
	checkWith(t, api.Vec{-1, 4, -2}, 0, 3, api.Vec{3, 4})
	checkWith(t, api.Vec{-1, 4, -2}, 2, 3, api.Vec{0, 4, 3})
	checkWith(t, api.Vec{-1, 4, -2}, 1, 0, nil)
	checkWith(t, api.Vec{math.MinInt, 4, math.MinInt}, 4, 3, api.Vec{0, 4, 0, 0, 3})
}

func TestP7_1WithInALongVector(t *testing.T) {
	// Only of the node that is named, a number above the limits is refused.
	checkWith(t, api.Vec{math.MaxInt, 1}, 1, 2, api.Vec{math.MaxInt, 2})
	checkWith(t, api.Vec{math.MaxInt, 1}, 0, 2, api.Vec{2, 1})
	checkWith(t, api.Vec{1, 2, 3, 4, 5, 6, 7, 8, 9, 10, 0, 0}, 7, 0, api.Vec{1, 2, 3, 4, 5, 6, 7, 0, 9, 10})
	checkWith(t, append(make(api.Vec, 50), 1), 7, 2, append(append(make(api.Vec, 7), 2), append(make(api.Vec, 42), 1)...))
}

func TestP7_1WithEachNode(t *testing.T) {
	for _, v := range vectors() {
		for node := range api.MaxNodes {
			for _, n := range []int{0, 1, 2, 77, api.MaxSeq - 1, api.MaxSeq} {
				m := said(v)
				delete(m, node)
				if n > 0 {
					m[node] = n
				}
				checkWith(t, v, node, n, trimmedOf(m))
			}
		}
	}
}

func TestP7_1WithIsRefused(t *testing.T) {
	behind := []int{api.MaxNodes, 9, 100, api.MaxSeq, math.MaxInt32, math.MaxInt - 1, math.MaxInt}
	great := []int{api.MaxSeq + 1, math.MaxInt32, math.MaxInt - 1, math.MaxInt}
	for _, v := range []api.Vec{nil, {}, {1}, {1, 0, 5}, {-1}, {1, 2, 3, 4, 5, 6, 7, 8, 9, 10}, some(200, 1)} {
		for _, node := range slices.Concat(below, behind) {
			for _, n := range slices.Concat(below, great, []int{0, 1, 5, api.MaxSeq}) {
				checkRefused(t, v, node, n)
			}
		}
		for node := range api.MaxNodes {
			for _, n := range slices.Concat(below, great) {
				checkRefused(t, v, node, n)
			}
		}
	}
}

func TestP7_2Known(t *testing.T) {
	a, b := api.Vec{1, 0, 5}, api.Vec{0, 2}
	checkJoin(t, a, b, api.Vec{1, 2, 5})
	checkJoin(t, b, a, api.Vec{1, 2, 5})
	checkMeet(t, a, b, nil)
	checkMeet(t, b, a, nil)
	checkWithin(t, b, a, false)
	checkWithin(t, a, b, false)
	checkJoin(t, api.Vec{3, 1}, api.Vec{2, 4, 6}, api.Vec{3, 4, 6})
	checkMeet(t, api.Vec{3, 1}, api.Vec{2, 4, 6}, api.Vec{2, 1})
	checkMeet(t, api.Vec{3, 0, 1}, api.Vec{2, 4, 6}, api.Vec{2, 0, 1})
	checkMeet(t, api.Vec{3, 1, 0, 7}, api.Vec{2, 0, 6}, api.Vec{2})
	checkWithin(t, api.Vec{2, 1}, api.Vec{2, 1, 1}, true)
	checkWithin(t, api.Vec{2, 1, 1}, api.Vec{2, 1}, false)
	checkWithin(t, api.Vec{2, 1, 1}, api.Vec{2, 1, 1}, true)
	checkWithin(t, api.Vec{2, 1, 1}, api.Vec{9, 0, 9}, false)
}

func TestP7_2OfNone(t *testing.T) {
	for _, none := range []api.Vec{nil, {}, {0}, {0, 0, 0, 0}, {-1}, {math.MinInt, 0, -5}, make(api.Vec, 20)} {
		for _, v := range vectors() {
			trimmed := trimmedOf(said(v))
			checkJoin(t, none, v, trimmed)
			checkJoin(t, v, none, trimmed)
			checkMeet(t, none, v, nil)
			checkMeet(t, v, none, nil)
			checkWithin(t, none, v, true)
			checkWithin(t, v, none, len(trimmed) == 0)
		}
	}
}

func TestP7_2NumbersThatSayNone(t *testing.T) {
	// Of two numbers that say none, neither is above the other one.
	for _, a := range append(below, 0) {
		for _, b := range append(below, 0) {
			checkWithin(t, api.Vec{a}, api.Vec{b}, true)
			checkWithin(t, api.Vec{1, a, 2}, api.Vec{1, b, 2}, true)
			checkJoin(t, api.Vec{a}, api.Vec{b}, nil)
			checkJoin(t, api.Vec{a, 3}, api.Vec{b, 2, a}, api.Vec{0, 3})
			checkMeet(t, api.Vec{a}, api.Vec{b}, nil)
			checkMeet(t, api.Vec{a, 3}, api.Vec{b, 2, a}, api.Vec{0, 2})
		}
		checkWithin(t, api.Vec{a}, nil, true)
		checkWithin(t, api.Vec{1, 2, a}, api.Vec{1, 2}, true)
		checkWithin(t, api.Vec{1}, api.Vec{a}, false)
		checkWithin(t, api.Vec{a, 1}, api.Vec{5}, false)
	}
}

func TestP7_2JoinMeetWithinOfEachTwo(t *testing.T) {
	l := vectors()
	for _, a := range l {
		for _, b := range l {
			x, y := said(a), said(b)
			checkJoin(t, a, b, trimmedOf(joined(x, y)))
			checkMeet(t, a, b, trimmedOf(met(x, y)))
			checkWithin(t, a, b, isWithin(x, y))
		}
	}
}

func TestP7_2HasKnown(t *testing.T) {
	v := api.Vec{1, 0, 5, -2}
	for node, most := range []int{1, 0, 5, 0, 0, 0, 0, 0, 0} {
		for seq := -3; seq < 9; seq++ {
			checkHas(t, v, api.Dot{Node: node, Seq: seq}, seq >= 1 && seq <= most)
		}
	}
}

func TestP7_2HasAtItsEdges(t *testing.T) {
	for _, n := range above {
		v := api.Vec{0, n}
		checkHas(t, v, api.Dot{Node: 1, Seq: 0}, false)
		checkHas(t, v, api.Dot{Node: 1, Seq: 1}, true)
		checkHas(t, v, api.Dot{Node: 1, Seq: n - 1}, n > 1)
		checkHas(t, v, api.Dot{Node: 1, Seq: n}, true)
		checkHas(t, v, api.Dot{Node: 1, Seq: math.MaxInt}, n == math.MaxInt)
		checkHas(t, v, api.Dot{Node: 0, Seq: 1}, false)
		if n < math.MaxInt {
			checkHas(t, v, api.Dot{Node: 1, Seq: n + 1}, false)
		}
		for _, seq := range below {
			checkHas(t, v, api.Dot{Node: 1, Seq: seq}, false)
		}
	}
	for _, n := range below {
		for _, seq := range slices.Concat(below, above, []int{0}) {
			checkHas(t, api.Vec{n, 1}, api.Dot{Node: 0, Seq: seq}, false)
		}
	}
}

func TestP7_2HasOfNoNode(t *testing.T) {
	for _, v := range []api.Vec{nil, {}, {9}, {9, 9, 9}, {9, 9, 9, 9, 9, 9, 9, 9, 9, 9}} {
		for _, seq := range []int{math.MinInt, -1, 0, 1, 9, math.MaxInt} {
			for _, node := range slices.Concat(below, []int{len(v), len(v) + 1, api.MaxSeq, math.MaxInt}) {
				checkHas(t, v, api.Dot{Node: node, Seq: seq}, false)
			}
		}
	}
	checkHas(t, api.Vec{1, 2, 3, 4, 5, 6, 7, 8, 9}, api.Dot{Node: 8, Seq: 9}, true)
	checkHas(t, api.Vec{1, 2, 3, 4, 5, 6, 7, 8, 9}, api.Dot{Node: 8, Seq: 10}, false)
}

func TestP7_2HasWhicheverEffect(t *testing.T) {
	for _, at := range slices.Concat(below, above, []int{0, 7, 8}) {
		checkHas(t, api.Vec{0, 4}, api.Dot{Node: 1, Seq: 4, At: at}, true)
		checkHas(t, api.Vec{0, 4}, api.Dot{Node: 1, Seq: 5, At: at}, false)
		checkHas(t, api.Vec{0, 4}, api.Dot{Node: 1, Seq: 0, At: at}, false)
		checkHas(t, api.Vec{0, 4}, api.Dot{Node: 2, Seq: 4, At: at}, false)
	}
}

func TestP7_2HasOfEach(t *testing.T) {
	for _, v := range vectors() {
		m := said(v)
		for node := -1; node < min(len(v), 12)+2; node++ {
			for seq := -1; seq < 5; seq++ {
				checkHas(t, v, api.Dot{Node: node, Seq: seq, At: node}, seq > 0 && seq <= m[node])
			}
		}
	}
}

func TestP7_3LeastAndGreatest(t *testing.T) {
	l := rows(3, -3, 0, 1, 2, 3)
	for _, a := range l {
		for _, b := range l {
			join, meet := Join(a, b), Meet(a, b)
			checkWithin(t, a, join, true)
			checkWithin(t, b, join, true)
			checkWithin(t, meet, a, true)
			checkWithin(t, meet, b, true)
			for _, c := range l {
				if Within(join, c) != (Within(a, c) && Within(b, c)) {
					t.Fatalf("both %v and %v within %v: %t; their Join: %t", a, b, c, !Within(join, c), Within(join, c))
				}
				if Within(c, meet) != (Within(c, a) && Within(c, b)) {
					t.Fatalf("%v within both %v and %v: %t; within their Meet: %t", c, a, b, !Within(c, meet), Within(c, meet))
				}
			}
		}
	}
}

func TestP7_3OddOnes(t *testing.T) {
	l := append(odd(), rows(2, -1, 0, 2)...)
	for _, a := range l {
		for _, b := range l {
			join, meet := Join(a, b), Meet(a, b)
			for _, c := range l {
				if Within(join, c) != (Within(a, c) && Within(b, c)) || Within(c, meet) != (Within(c, a) && Within(c, b)) {
					t.Fatalf("of %.20v and %.20v: the Join %.20v and the Meet %.20v don't fit %.20v", a, b, join, meet, c)
				}
			}
		}
	}
}

func TestP7_3InAnyOrderAndGrouping(t *testing.T) {
	l := append(rows(3, -3, 0, 1, 2), api.Vec{math.MaxInt, math.MinInt}, api.Vec{0, 0, 0, 0, 0, 0, 0, 0, 0, 3}, some(9, 5))
	for _, a := range l {
		trimmed := Trim(a)
		checkJoin(t, a, a, trimmed)
		checkMeet(t, a, a, trimmed)
		for _, b := range l {
			checkJoin(t, b, a, Join(a, b))
			checkMeet(t, b, a, Meet(a, b))
			checkJoin(t, a, Meet(a, b), trimmed)
			checkMeet(t, a, Join(a, b), trimmed)
			for _, c := range l {
				checkJoin(t, a, Join(b, c), Join(Join(a, b), c))
				checkMeet(t, a, Meet(b, c), Meet(Meet(a, b), c))
				checkMeet(t, a, Join(b, c), Join(Meet(a, b), Meet(a, c)))
			}
		}
	}
}

func TestP7_3WithinIsAnOrder(t *testing.T) {
	l := rows(3, -3, 0, 1, 2)
	for _, a := range l {
		checkWithin(t, a, a, true)
		for _, b := range l {
			if (Within(a, b) && Within(b, a)) != same(Trim(a), Trim(b)) {
				t.Errorf("%v and %v are within one another, or are the same: not both", a, b)
			}
			if Within(a, b) != same(Join(a, b), Trim(b)) || Within(a, b) != same(Meet(a, b), Trim(a)) {
				t.Errorf("%v within %v: %t; Join %v, Meet %v", a, b, Within(a, b), Join(a, b), Meet(a, b))
			}
		}
	}
}

func TestP7_3WhatOneOfThemHas(t *testing.T) {
	l := rows(2, -3, 0, 1, 2, 3)
	for _, a := range l {
		for _, b := range l {
			for node := range 3 {
				for seq := range 5 {
					d := api.Dot{Node: node, Seq: seq}
					checkHas(t, Join(a, b), d, Has(a, d) || Has(b, d))
					checkHas(t, Meet(a, b), d, Has(a, d) && Has(b, d))
				}
			}
		}
	}
}

// spare are arguments that lie in one array, one behind the other, each with all that follows as its spare room.
func spare(l ...api.Vec) (api.Vec, []api.Vec) {
	whole := slices.Concat(l...)
	whole = append(whole, 91, 92, 93, 94, 95, 96, 97, 98, 99)
	laid, from := []api.Vec{}, 0
	for _, v := range l {
		laid = append(laid, whole[from:from+len(v)])
		from += len(v)
	}
	return whole, laid
}

// checkApart turns an answer, spare room and all, and asks that it changes nothing there.
func checkApart(t *testing.T, what string, whole, before, answer api.Vec) {
	t.Helper()
	if !slices.Equal(whole, before) {
		t.Fatalf("%s: what was handed in, or its spare room, was changed: %v; want %v", what, whole, before)
	}
	for i := range answer[:cap(answer)] {
		answer[:cap(answer)][i] = -55
	}
	if !slices.Equal(whole, before) {
		t.Fatalf("%s: the answer shares memory with what was handed in: %v; want %v", what, whole, before)
	}
}

func TestP7_1NothingIsChangedOrShared(t *testing.T) {
	for _, v := range rows(4, -3, 0, 2) {
		whole, l := spare(v)
		before := slices.Clone(whole)
		checkApart(t, "Trim", whole, before, Trim(l[0]))
		for node := -1; node < 10; node++ {
			for _, n := range []int{-1, 0, 2, 7, api.MaxSeq + 1} {
				got, _ := With(l[0], node, n)
				checkApart(t, "With", whole, before, got)
			}
			At(l[0], node)
			checkApart(t, "At", whole, before, nil)
		}
	}
}

func TestP7_2NothingIsChangedOrShared(t *testing.T) {
	vs := rows(3, -3, 0, 1, 2)
	for _, a := range vs {
		for _, b := range vs {
			whole, l := spare(a, b)
			before := slices.Clone(whole)
			checkApart(t, "Join", whole, before, Join(l[0], l[1]))
			checkApart(t, "Meet", whole, before, Meet(l[0], l[1]))
			checkApart(t, "Join with itself", whole, before, Join(l[0], l[0]))
			checkApart(t, "Meet with itself", whole, before, Meet(l[0], l[0]))
			Within(l[0], l[1])
			Has(l[0], api.Dot{Node: 1, Seq: 1})
			checkApart(t, "Within or Has", whole, before, nil)
		}
	}
}

func TestP7_1AnswersAreApart(t *testing.T) {
	// Each call answers memory of its own.
	v := api.Vec{1, 2, 3}
	first, second := Trim(v), Trim(v)
	first[0] = 9
	checkTrim(t, second, v)
	one, _ := With(v, 1, 2)
	two, _ := With(v, 1, 2)
	one[0] = 9
	checkTrim(t, two, v)
	join, meet := Join(v, v), Meet(v, v)
	join[0], meet[1] = 9, 9
	checkJoin(t, v, v, v)
	checkMeet(t, v, v, v)
}

func TestP7_2VeryLongVectors(t *testing.T) {
	n := 1 << 20
	a, b := make(api.Vec, n), make(api.Vec, n+1)
	a[n-1], a[3], b[3], b[n] = 5, 2, 1, 7
	join := Join(a, b)
	if len(join) != n+1 || join[n] != 7 || join[n-1] != 5 || join[3] != 2 {
		t.Errorf("Join has %d numbers, %d at the end", len(join), join[len(join)-1])
	}
	checkMeet(t, a, b, api.Vec{0, 0, 0, 1})
	checkWithin(t, a, b, false)
	checkWithin(t, a, join, true)
	checkWithin(t, b, join, true)
	checkHas(t, join, api.Dot{Node: n, Seq: 7}, true)
	checkHas(t, join, api.Dot{Node: n + 1, Seq: 1}, false)
	checkTrim(t, make(api.Vec, n), nil)
}
