package order

import (
	"fmt"
	"math"
	"slices"
	"strings"
	"testing"

	"buttery/api"
	"buttery/txn"
	"buttery/vec"
)

const maxSeq = 1 << 30

// ints are values of a transaction's numbers, and of a vector's: such as may be, and such as may not.
func ints() []int {
	return []int{
		math.MinInt, math.MinInt + 1, -1 << 40, -1<<32 + 1, -8, -2, -1, 0, 1, 2, 3, 4, 6, 7, 8, 9, 15, 127, 128,
		maxSeq - 2, maxSeq - 1, maxSeq, maxSeq + 1, maxSeq + 2, 1 << 31, 1 << 32, 1<<32 + 1, math.MaxInt - 2, math.MaxInt - 1, math.MaxInt,
	}
}

// of is a transaction of these parts.
func of(node, seq int, deps ...int) api.Txn { return api.Txn{Node: node, Seq: seq, Deps: deps} }

// txns are a list of these.
func txns(l ...api.Txn) []api.Txn { return l }

// drop is an effect that takes one dot away.
func drop(at int, key string, d api.Dot) api.Eff {
	return api.Eff{At: at, Key: key, Drops: []api.Dot{d}}
}

// marked are the transactions of l, each with an effect that tells its place, so that alike ones are told apart.
func marked(l []api.Txn) []api.Txn {
	l = slices.Clone(l)
	for i := range l {
		l[i].Effs = append([]api.Eff{{Key: "place", Kind: api.Count, N: int64(i)}}, l[i].Effs...)
	}
	return l
}

// placeOf is what such an effect tells.
func placeOf(t api.Txn) int { return int(t.Effs[0].N) }

// upTo is what a vector says of a node.
func upTo(v api.Vec, node int) int {
	if 0 <= node && node < len(v) && v[node] > 0 {
		return v[node]
	}
	return 0
}

// isReady is what the document says of a transaction that is ready.
func isReady(v api.Vec, t api.Txn) bool {
	for node, n := range t.Deps {
		if n > upTo(v, node) {
			return false
		}
	}
	return t.Seq >= 1 && upTo(v, t.Node) == t.Seq-1
}

// nextOf is what it says of Next.
func nextOf(v api.Vec, t api.Txn) api.Vec {
	var next api.Vec
	for node := range max(len(v), 8) {
		next = append(next, upTo(v, node))
	}
	if t.Node >= 0 && t.Node <= 7 && t.Seq >= 0 && t.Seq <= 1073741824 {
		next[t.Node] = t.Seq
	}
	for len(next) > 0 && next[len(next)-1] == 0 {
		next = next[:len(next)-1]
	}
	return next
}

// takeOf is what it says of Take, to the letter; and those that are left.
func takeOf(v api.Vec, l []api.Txn) (taken []api.Txn, end api.Vec, left []api.Txn) {
	left = slices.Clone(l)
	for {
		place := slices.IndexFunc(left, func(t api.Txn) bool { return isReady(v, t) })
		if place < 0 {
			return taken, v, left
		}
		taken = append(taken, left[place])
		v = nextOf(v, left[place])
		left = slices.Delete(left, place, place+1)
	}
}

// chainOf is what it says of Chain.
func chainOf(v api.Vec, l []api.Txn) bool {
	return len(l) == 0 || isReady(v, l[0]) && chainOf(nextOf(v, l[0]), l[1:])
}

// sameEff, same and sameTxns tell whether two are the same, lists that are nil like empty ones.
func sameEff(a, b api.Eff) bool {
	return a.At == b.At && a.Key == b.Key && a.Field == b.Field && a.Kind == b.Kind && a.Elem == b.Elem && a.N == b.N && slices.Equal(a.Drops, b.Drops)
}

func same(a, b api.Txn) bool {
	return a.Node == b.Node && a.Seq == b.Seq && slices.Equal(a.Deps, b.Deps) && slices.EqualFunc(a.Effs, b.Effs, sameEff)
}

func sameTxns(a, b []api.Txn) bool { return slices.EqualFunc(a, b, same) }

// short tells a value, no longer than one can read.
func short(v any) string {
	s := fmt.Sprintf("%+v", v)
	if len(s) > 1000 {
		return s[:1000] + ".."
	}
	return s
}

func checkReady(t *testing.T, v api.Vec, x api.Txn, want bool) {
	t.Helper()
	if got := Ready(v, x); got != want {
		t.Fatalf("Ready(%s, %s) = %t; want %t", short(v), short(x), got, want)
	}
}

func checkNext(t *testing.T, v api.Vec, x api.Txn, want api.Vec) {
	t.Helper()
	if got := Next(v, x); !slices.Equal(got, want) {
		t.Fatalf("Next(%s, %s) = %s; want %s", short(v), short(x), short(got), short(want))
	}
}

func checkTake(t *testing.T, v api.Vec, l, want []api.Txn, wantEnd api.Vec) {
	t.Helper()
	got, end := Take(v, l)
	if !sameTxns(got, want) || !slices.Equal(end, wantEnd) {
		t.Fatalf("Take(%s, %s) = %s, %s; want %s, %s", short(v), short(l), short(got), short(end), short(want), short(wantEnd))
	}
}

func checkChain(t *testing.T, v api.Vec, l []api.Txn, want bool) {
	t.Helper()
	if got := Chain(v, l); got != want {
		t.Fatalf("Chain(%s, %s) = %t; want %t", short(v), short(l), got, want)
	}
}

// checkWords holds all calls against what the document says, and tells how many are taken.
func checkWords(t *testing.T, v api.Vec, l []api.Txn) int {
	t.Helper()
	want, end, _ := takeOf(v, l)
	checkTake(t, v, l, want, end)
	checkChain(t, v, l, chainOf(v, l))
	return len(want)
}

// rows are all lists of at most so many of these.
func rows[T any](most int, of ...T) [][]T {
	l := [][]T{nil}
	for from := 0; most > 0; most-- {
		end := len(l)
		for _, row := range l[from:end] {
			for _, x := range of {
				l = append(l, append(slices.Clone(row), x))
			}
		}
		from = end
	}
	return l
}

// shortVectors are all vectors of at most so many of these numbers.
func shortVectors(most int, numbers ...int) []api.Vec {
	var l []api.Vec
	for _, row := range rows(most, numbers...) {
		l = append(l, row)
	}
	return l
}

// orders are all orders of a list.
func orders[T any](l []T) [][]T {
	if len(l) == 0 {
		return [][]T{nil}
	}
	var all [][]T
	for _, order := range orders(l[1:]) {
		for place := range len(l) {
			all = append(all, slices.Insert(slices.Clone(order), place, l[0]))
		}
	}
	return all
}

// chance answers numbers below what it is asked, always the same ones for a seed.
func chance(seed uint32) func(below int) int {
	state := seed*2654435761 + 12345
	return func(below int) int {
		state = state*1664525 + 1013904223
		return int(state >> 8 % uint32(below))
	}
}

// mixed is a list in some other order.
func mixed[T any](l []T, next func(int) int) []T {
	l = slices.Clone(l)
	for i := range l {
		j := i + next(len(l)-i)
		l[i], l[j] = l[j], l[i]
	}
	return l
}

// history is what these many nodes make, n transactions one behind the other, that hang on what their nodes had heard by then; with no two of one Node and Seq.
func history(nodes, n int, next func(int) int) []api.Txn {
	heard := make([]api.Vec, nodes)
	var l []api.Txn
	for range n {
		node, from := next(nodes), next(nodes)
		heard[node] = vec.Join(heard[node], heard[from])
		x := of(node, vec.At(heard[node], node)+1, slices.Clone(heard[node])...)
		if len(l) > 0 && next(3) == 0 {
			x.Effs = []api.Eff{drop(next(8), "a", txn.Dot(l[next(len(l))]))}
		}
		heard[node] = Next(heard[node], x)
		l = append(l, x)
	}
	return l
}

// fewer is l without so many of it, where there are as many.
func fewer(l []api.Txn, n int, next func(int) int) []api.Txn {
	for range min(n, len(l)) {
		place := next(len(l))
		l = slices.Delete(slices.Clone(l), place, place+1)
	}
	return l
}

// vectors are such as are trimmed, and such as are not, or say more than a transaction can.
func vectors() []api.Vec {
	l := []api.Vec{
		nil, {}, {0}, {-1}, {1}, {0, 0}, {0, 1}, {1, 0}, {-3, 0, -1}, {2, -1, 0}, {3, 1, 4, 1, 5, 9, 2, 6}, {0, 0, 0, 0, 0, 0, 0, 5}, {0, 0, 0, 0, 0, 0, 0, 0}, {1, 2, 3, 0, 0, 0, 0, 0, 0, 0},
		{1, 1, 1, 1, 1, 1, 1, 1, 1, 1}, {0, 0, 0, 0, 0, 0, 0, 0, 0, 4, 0}, {0, 0, 0, 0, 0, 0, 0, 0, -4, 0, math.MinInt},
		{math.MaxInt}, {math.MinInt}, {maxSeq, maxSeq}, {maxSeq - 1, maxSeq + 1}, {0, math.MinInt, 2, math.MaxInt, 0}, make(api.Vec, 500), slices.Repeat(api.Vec{-2}, 500), slices.Repeat(api.Vec{2}, 500),
	}
	return l
}

func TestP14_1ReadyKnown(t *testing.T) {
	for _, c := range []struct {
		v    api.Vec
		t    api.Txn
		want bool
	}{
		{nil, of(0, 1), true},
		{nil, of(7, 1), true},
		{api.Vec{}, of(0, 1), true},
		{nil, of(0, 2), false},
		{nil, of(0, 0), false},
		{nil, of(0, -1), false},
		{nil, api.Txn{}, false},
		{api.Vec{1}, of(0, 2, 1), true},
		{api.Vec{1}, of(0, 2), true},
		{api.Vec{1}, of(0, 1), false},
		{api.Vec{1}, of(0, 3, 1), false},
		{api.Vec{1}, of(0, 3, 2), false},
		{api.Vec{1}, of(1, 1, 1), true},
		{api.Vec{1}, of(1, 1, 2), false},
		{api.Vec{1}, of(1, 2, 1), false},
		{api.Vec{3, 1}, of(1, 2, 3, 1), true},
		{api.Vec{3, 1}, of(1, 2, 2, 1), true},
		{api.Vec{3, 1}, of(1, 2, 4, 1), false},
		{api.Vec{3, 1}, of(1, 2, 3, 2), false},
		{api.Vec{3, 1}, of(1, 2, 3, 1, 1), false},
		{api.Vec{3, 1}, of(1, 2, 3, 1, 0, 0), true},
		{api.Vec{3, 1}, of(1, 2, -3, -1, -1), true},
		{api.Vec{3, 1}, of(2, 1, 3, 1), true},
		{api.Vec{3, 1, 0, 0}, of(2, 1, 3, 1), true},
		{api.Vec{3, 1, -5}, of(2, 1, 3, 1), true},
		{api.Vec{-5}, of(0, 1), true},
		{api.Vec{-5}, of(0, -4), false},
		{api.Vec{-1}, of(0, 0), false},
		{api.Vec{-1}, of(0, 1, -1), true},
		{api.Vec{-1}, of(0, 1, 0), true},
		{api.Vec{math.MinInt}, of(0, math.MinInt+1), false},
		{api.Vec{math.MaxInt}, of(0, math.MinInt), false},
		{api.Vec{math.MaxInt}, of(0, math.MaxInt), false},
		{api.Vec{math.MaxInt - 1}, of(0, math.MaxInt), true},
		{api.Vec{maxSeq}, of(0, maxSeq+1), true},
		// Nodes that there are none of.
		{nil, of(-1, 1), true},
		{nil, of(8, 1), true},
		{nil, of(math.MinInt, 1), true},
		{nil, of(math.MaxInt, 1), true},
		{nil, of(math.MaxInt, 2), false},
		{api.Vec{1, 1, 1, 1, 1, 1, 1, 1, 6}, of(8, 7), true},
		{api.Vec{1, 1, 1, 1, 1, 1, 1, 1, 6}, of(8, 1), false},
		{api.Vec{1, 1, 1, 1, 1, 1, 1, 1, 6}, of(9, 1), true},
	} {
		checkReady(t, c.v, c.t, c.want)
		if isReady(c.v, c.t) != c.want {
			t.Fatalf("the words of these tests say %t of %s, %s", !c.want, short(c.v), short(c.t))
		}
	}
}

func TestP14_1ReadyBySeq(t *testing.T) {
	for _, n := range ints() {
		for _, seq := range ints() {
			want := seq >= 1 && seq-1 == max(n, 0)
			checkReady(t, api.Vec{n}, of(0, seq), want)
			checkReady(t, api.Vec{9, 9, n, 9}, of(2, seq, 9, 9, n), want)
			checkReady(t, api.Vec{0, 0, 0, 0, 0, 0, 0, n}, of(7, seq, 0, 0, 0, 0, 0, 0, 0, n), want)
			checkReady(t, append(make(api.Vec, 20), n), of(20, seq), want)
			checkReady(t, api.Vec{n}, of(1, seq), seq == 1)
		}
		for seq := max(n, 3) - 3; seq < n+4; seq++ {
			checkReady(t, api.Vec{n}, of(0, seq), seq >= 1 && seq-1 == max(n, 0))
		}
	}
}

func TestP14_1ReadyByNode(t *testing.T) {
	for _, node := range slices.Concat(ints(), []int{10, 11, 12, 499, 500, 501}) {
		for _, v := range vectors() {
			for seq := -2; seq < 8; seq++ {
				checkReady(t, v, of(node, seq), seq == upTo(v, node)+1)
				checkReady(t, v, of(node, seq, v...), seq == upTo(v, node)+1)
			}
		}
	}
}

func TestP14_1ReadyByDeps(t *testing.T) {
	// One number of Deps alone lies above the vector, or none does.
	for _, nodes := range []int{1, 2, 8, 12} {
		for _, of1 := range []int{0, 1, 2, 100, maxSeq, math.MaxInt - 1} {
			v := slices.Repeat(api.Vec{of1}, nodes)
			for place := range nodes + 3 {
				for _, n := range ints() {
					deps := slices.Repeat(api.Vec{of1}, max(nodes, place+1))
					for i := nodes; i < len(deps); i++ {
						deps[i] = 0
					}
					deps[place] = n
					said := 0
					if place < nodes {
						said = of1
					}
					checkReady(t, v, of(0, of1+1, deps...), n <= said)
					checkReady(t, v, of(nodes-1, of1+1, deps...), n <= said)
					checkReady(t, v, of(nodes, 1, deps...), n <= said)
					checkReady(t, v, of(nodes, 2, deps...), false)
				}
			}
		}
	}
	long := slices.Repeat(api.Vec{3}, 1<<20)
	checkReady(t, long, of(5, 4, long...), true)
	checkReady(t, long[1:], of(5, 4, long...), false)
	checkReady(t, long, of(5, 4, append(make(api.Vec, 1<<21), -1)...), true)
	checkReady(t, long, of(5, 4, append(make(api.Vec, 1<<21), 1)...), false)
}

func TestP14_1ReadyOfAllShortOnes(t *testing.T) {
	numbers := []int{-1, 0, 1, 2, 3}
	yes := 0
	for _, v := range rows(3, numbers...) {
		for _, deps := range rows(3, numbers...) {
			for _, node := range []int{-1, 0, 1, 2, 3, 8} {
				for _, seq := range []int{-1, 0, 1, 2, 3, 4} {
					x := of(node, seq, deps...)
					checkReady(t, v, x, isReady(v, x))
					if isReady(v, x) {
						yes++
					}
				}
			}
		}
	}
	if yes < 1000 {
		t.Fatalf("only %d are ready", yes)
	}
}

func TestP14_1ReadyByNothingElse(t *testing.T) {
	// What the effects are doesn't matter, nor what Deps say too little.
	odd := []api.Eff{{At: -1, Key: "?", Kind: 9, Elem: strings.Repeat("e", 99), Drops: []api.Dot{{Node: 3, Seq: 99}}}, {}, {}}
	for _, v := range vectors() {
		for node := range 9 {
			for seq := range 5 {
				x := of(node, seq, 0, 0)
				want := Ready(v, x)
				x.Effs = odd
				checkReady(t, v, x, want)
				x.Effs = slices.Repeat(odd, 10)
				x.Deps = api.Vec{-9, -9, 0, 0, 0, 0, 0, 0, 0, 0, 0, -1}
				checkReady(t, v, x, want)
			}
		}
	}
}

func TestP14_1NextKnown(t *testing.T) {
	for _, c := range []struct {
		v    api.Vec
		t    api.Txn
		want api.Vec
	}{
		{nil, of(0, 1), api.Vec{1}},
		{nil, of(2, 1), api.Vec{0, 0, 1}},
		{nil, of(7, maxSeq), api.Vec{0, 0, 0, 0, 0, 0, 0, maxSeq}},
		{api.Vec{3, 1}, of(1, 2, 3, 1), api.Vec{3, 2}},
		{api.Vec{3, 1, 0, -1}, of(1, 2, 3, 1), api.Vec{3, 2}},
		{api.Vec{-3, 1, 0, -1}, of(4, 1), api.Vec{0, 1, 0, 0, 1}},
		// Ready or not, and whatever the Deps.
		{api.Vec{3, 1}, of(0, 9), api.Vec{9, 1}},
		{api.Vec{3, 1}, of(0, 2), api.Vec{2, 1}},
		{api.Vec{3, 1}, of(0, 3, 7, 7, 7), api.Vec{3, 1}},
		{api.Vec{3, 1}, of(1, 0), api.Vec{3}},
		{api.Vec{0, 1}, of(1, 0), nil},
		{api.Vec{3, 1, 0, 0, 0, 0, 0, 0, 0, 5, 0}, of(1, 7), api.Vec{3, 7, 0, 0, 0, 0, 0, 0, 0, 5}},
		// Where vec.With errs.
		{nil, of(0, -1), nil},
		{nil, of(8, 1), nil},
		{nil, of(-1, 1), nil},
		{nil, of(0, maxSeq+1), nil},
		{api.Vec{3, 1}, of(8, 1), api.Vec{3, 1}},
		{api.Vec{3, 1, 0, -1}, of(8, 1), api.Vec{3, 1}},
		{api.Vec{-3, 1, 0, -1}, of(-1, 1), api.Vec{0, 1}},
		{api.Vec{-3, 0, -1}, of(0, -1), nil},
		{api.Vec{-3, 0, -1}, of(math.MaxInt, 1), nil},
		{api.Vec{maxSeq, 0}, of(0, maxSeq+1), api.Vec{maxSeq}},
		{api.Vec{0, 0, 0, 0, 0, 0, 0, 0, 4, 0}, of(8, 5), api.Vec{0, 0, 0, 0, 0, 0, 0, 0, 4}},
		{api.Vec{math.MaxInt, math.MinInt}, of(1, math.MaxInt), api.Vec{math.MaxInt}},
	} {
		checkNext(t, c.v, c.t, c.want)
		if !slices.Equal(nextOf(c.v, c.t), c.want) {
			t.Fatalf("the words of these tests say %s of %s, %s", short(nextOf(c.v, c.t)), short(c.v), short(c.t))
		}
	}
}

func TestP14_1NextOfEach(t *testing.T) {
	for _, v := range slices.Concat(vectors(), shortVectors(4, -1, 0, 1, 2)) {
		for _, node := range ints() {
			for _, seq := range ints() {
				x := of(node, seq, 1, 2, 3)
				checkNext(t, v, x, nextOf(v, x))
				with, err := vec.With(v, node, seq)
				if err != api.OK {
					with = vec.Trim(v)
				}
				checkNext(t, v, x, with)
			}
		}
	}
}

func TestP14_2TakeKnown(t *testing.T) {
	one, two, three := of(0, 1), of(0, 2, 1), of(0, 3, 2)
	other, behind := of(1, 1, 2), of(1, 2, 3, 1)
	for _, c := range []struct {
		v    api.Vec
		l    []api.Txn
		want []api.Txn
		end  api.Vec
	}{
		// Nothing, and the chapter's example.
		{nil, nil, nil, nil},
		{api.Vec{1, -1, 0}, nil, nil, api.Vec{1, -1, 0}},
		{api.Vec{1, -1, 0}, txns(), nil, api.Vec{1, -1, 0}},
		{nil, txns(two, one), txns(one, two), api.Vec{2}},
		// All in their order, turned about, and mixed.
		{nil, txns(one, two, three), txns(one, two, three), api.Vec{3}},
		{nil, txns(three, two, one), txns(one, two, three), api.Vec{3}},
		{nil, txns(two, three, one), txns(one, two, three), api.Vec{3}},
		{nil, txns(one, two, three, other, behind), txns(one, two, three, other, behind), api.Vec{3, 2}},
		{nil, txns(behind, other, three, two, one), txns(one, two, other, three, behind), api.Vec{3, 2}},
		{nil, txns(behind, three, other, two, one), txns(one, two, three, other, behind), api.Vec{3, 2}},
		{nil, txns(three, one, other, behind, two), txns(one, two, three, other, behind), api.Vec{3, 2}},
		{nil, txns(other, one, three, behind, two), txns(one, two, other, three, behind), api.Vec{3, 2}},
		// The first one that is ready, not the one behind the last one that was taken.
		{nil, txns(of(0, 2), of(1, 1), of(0, 1), of(2, 1)), txns(of(1, 1), of(0, 1), of(0, 2), of(2, 1)), api.Vec{2, 1, 1}},
		{nil, txns(of(2, 2), of(1, 2), of(2, 1), of(1, 1)), txns(of(2, 1), of(2, 2), of(1, 1), of(1, 2)), api.Vec{0, 2, 2}},
		// None is ready: the vector as it is.
		{nil, txns(two), nil, nil},
		{api.Vec{0, 0, -2}, txns(two, three, other), nil, api.Vec{0, 0, -2}},
		{api.Vec{3, 2, 0}, txns(one, two, three, other, behind), nil, api.Vec{3, 2, 0}},
		{api.Vec{-1}, txns(of(0, 0), api.Txn{}, of(3, -1)), nil, api.Vec{-1}},
		// One is ready: the vector trimmed.
		{api.Vec{0, 0, -2, 0}, txns(one), txns(one), api.Vec{1}},
		{api.Vec{0, 5, -2, 0}, txns(two, one), txns(one, two), api.Vec{2, 5}},
		// Some were heard already.
		{api.Vec{1}, txns(three, two, one), txns(two, three), api.Vec{3}},
		{api.Vec{2, 1}, txns(other, one, behind, two, three), txns(three, behind), api.Vec{3, 2}},
		// One is missing, and those behind it stay.
		{nil, txns(three, one), txns(one), api.Vec{1}},
		{nil, txns(behind, other, three, one), txns(one), api.Vec{1}},
		{nil, txns(behind, other, two, one), txns(one, two, other), api.Vec{2, 1}},
		{nil, txns(behind, three, two, one), txns(one, two, three), api.Vec{3}},
		// Two have one Node and Seq: the first one that is ready.
		{nil, txns(one, one), txns(one), api.Vec{1}},
		{nil, txns(one, two, one, two), txns(one, two), api.Vec{2}},
		{nil, txns(of(0, 2, 1, 1), two, one, of(1, 1)), txns(one, two, of(1, 1)), api.Vec{2, 1}},
		{nil, txns(of(0, 2, 1, 1), of(1, 1), two, one), txns(of(1, 1), one, of(0, 2, 1, 1)), api.Vec{2, 1}},
		{nil, txns(of(0, 1, 0, 1), of(1, 1), one), txns(of(1, 1), of(0, 1, 0, 1)), api.Vec{1, 1}},
		{nil, txns(of(0, 1, 0, 1), one, of(1, 1)), txns(one, of(1, 1)), api.Vec{1, 1}},
		// A number of Deps that is above what they can hear ever.
		{nil, txns(one, of(1, 1, 2), of(2, 1, 1, 1)), txns(one), api.Vec{1}},
		{nil, txns(of(0, 1, 0, 1), of(1, 1, 1)), nil, nil},
		{nil, txns(of(0, 1, 1)), nil, nil},
		// Nodes and numbers of which no vector can say anything: all of them are taken.
		{nil, txns(of(8, 1), of(8, 2), of(8, 1), of(-1, 1)), txns(of(8, 1), of(8, 1), of(-1, 1)), nil},
		{api.Vec{0, -1}, txns(of(8, 2), of(8, 1)), txns(of(8, 1)), nil},
		{api.Vec{maxSeq - 1, 0}, txns(of(0, maxSeq+1), of(0, maxSeq), of(0, maxSeq+1), of(0, maxSeq+2)), txns(of(0, maxSeq), of(0, maxSeq+1), of(0, maxSeq+1)), api.Vec{maxSeq}},
		{nil, txns(of(0, 1, 0, 0, 0, 0, 0, 0, 0, 0, 1), of(8, 1), one), txns(of(8, 1), one), api.Vec{1}},
		{api.Vec{0, 0, 0, 0, 0, 0, 0, 0, 1}, txns(of(8, 3), of(0, 1, 0, 0, 0, 0, 0, 0, 0, 0, 1), of(8, 2)), txns(of(0, 1, 0, 0, 0, 0, 0, 0, 0, 0, 1), of(8, 2)), api.Vec{1, 0, 0, 0, 0, 0, 0, 0, 1}},
	} {
		checkTake(t, c.v, c.l, c.want, c.end)
		if want, end, _ := takeOf(c.v, c.l); !sameTxns(want, c.want) || !slices.Equal(end, c.end) {
			t.Fatalf("the words of these tests say %s, %s of %s, %s", short(want), short(end), short(c.v), short(c.l))
		}
	}
}

func TestP14_2TakeIsWhole(t *testing.T) {
	// What is taken has all parts that it had, also what isn't right.
	x := of(2, 1, 4, -1, 0, 0)
	x.Effs = []api.Eff{
		{At: 3, Key: "k", Field: "f", Kind: api.Reg, Elem: "e", N: 7, Drops: []api.Dot{{Node: 0, Seq: 4, At: 1}, {Node: 0, Seq: 3, At: 2}}},
		{At: -3, Key: "?", Kind: 77},
		{},
	}
	checkTake(t, api.Vec{4}, txns(of(2, 2), x), txns(x, of(2, 2)), api.Vec{4, 0, 2})
}

func TestP14_2ChainKnown(t *testing.T) {
	one, two, three := of(0, 1), of(0, 2, 1), of(0, 3, 2)
	other, behind := of(1, 1, 2), of(1, 2, 3, 1)
	for _, c := range []struct {
		v    api.Vec
		l    []api.Txn
		want bool
	}{
		{nil, nil, true},
		{api.Vec{4, -1, 0}, txns(), true},
		{nil, txns(one), true},
		{nil, txns(two), false},
		{api.Vec{1}, txns(two), true},
		{nil, txns(one, two, three, other, behind), true},
		{nil, txns(one, two, other, three, behind), true},
		{api.Vec{2}, txns(three, other, behind), true},
		{api.Vec{2, -1, 0}, txns(three, other, behind), true},
		{api.Vec{1}, txns(three, other, behind), false},
		// Two neighbours changed, one left out, one twice.
		{nil, txns(two, one, three, other, behind), false},
		{nil, txns(one, three, two, other, behind), false},
		{nil, txns(one, two, three, behind, other), false},
		{nil, txns(two, three, other, behind), false},
		{nil, txns(one, three, other, behind), false},
		{nil, txns(one, two, other, behind), false},
		{nil, txns(one, two, three, behind), false},
		{nil, txns(one, two, three, other), true},
		{nil, txns(one, one, two, three, other, behind), false},
		{nil, txns(one, two, three, other, behind, behind), false},
		{nil, txns(one, two, three, other, behind, one), false},
		// The last one alone is not ready, or the first one.
		{nil, txns(one, two, three, of(2, 2)), false},
		{nil, txns(of(0, 0), one, two, three), false},
		{nil, txns(one, of(1, 1, 1, 0, 1)), false},
		// Of these no vector says anything.
		{nil, txns(of(8, 1), of(8, 1), of(-1, 1)), true},
		{nil, txns(of(8, 1), of(8, 2)), false},
		{api.Vec{maxSeq - 1}, txns(of(0, maxSeq), of(0, maxSeq+1), of(0, maxSeq+1)), true},
		{api.Vec{maxSeq - 1}, txns(of(0, maxSeq), of(0, maxSeq+1), of(0, maxSeq+2)), false},
	} {
		checkChain(t, c.v, c.l, c.want)
		if chainOf(c.v, c.l) != c.want {
			t.Fatalf("the words of these tests say %t of %s, %s", !c.want, short(c.v), short(c.l))
		}
	}
}

// few are transactions of few nodes and numbers, formed or not.
func few() []api.Txn {
	return txns(
		of(0, 1), of(0, 1, 0, 1), of(0, 2, 1), of(0, 2, 1, 1), of(0, 3, 2), of(0, 3, 2, 2),
		of(1, 1), of(1, 1, 1), of(1, 2, 0, 1), of(1, 2, 3, 1), of(0, 0), of(0, 2, -1, 0, 0, 0), of(8, 1), of(8, 1, 1, 1), of(2, 1, 1, 2, 3),
	)
}

func TestP14_2AllShortLists(t *testing.T) {
	many := 0
	for _, l := range rows(4, few()...) {
		l = marked(l)
		for _, v := range []api.Vec{nil, {1}, {0, 1, 0}} {
			if checkWords(t, v, l) == 4 {
				many++
			}
		}
	}
	if many < 200 {
		t.Fatalf("all four were taken %d times", many)
	}
}

func TestP14_2ShortListsByAllVectors(t *testing.T) {
	for _, l := range rows(2, few()...) {
		l = marked(l)
		for _, v := range slices.Concat(vectors(), shortVectors(3, -1, 0, 1, 2)) {
			checkWords(t, v, l)
		}
	}
}

func TestP14_2AtTheEdgesOfNumbers(t *testing.T) {
	for _, node := range []int{math.MinInt, -1, 0, 7, 8, 9, math.MaxInt} {
		for _, n := range ints() {
			for _, seq := range ints() {
				l := marked(txns(of(node, seq+1, n), of(node, seq), of(node, seq), of(3, 1, n-1, seq), of(3, 1, n, seq)))
				for _, v := range []api.Vec{{n}, {n, n}, {n, 0, 0, 0, 0, 0, 0, n, n, 0}} {
					checkWords(t, v, l)
				}
			}
		}
	}
}

// odds are some transactions of few values of each part, and some of a history, some of them twice, mixed.
func odds(seed uint32) (api.Vec, []api.Txn) {
	next := chance(seed)
	l := history(1+next(5), next(20), next)
	var v api.Vec
	for range next(4) {
		v = append(v, next(4)-1)
	}
	for range next(6) {
		x := of(next(6), next(5))
		for range next(4) {
			x.Deps = append(x.Deps, next(4)-1)
		}
		l = append(l, x)
	}
	if len(l) > 0 {
		for range next(5) {
			l = append(l, l[next(len(l))])
		}
		for range next(3) {
			place := next(len(l))
			l[place] = of(l[place].Node, l[place].Seq)
		}
	}
	return v, marked(mixed(l, next))
}

func TestP14_2SomeLists(t *testing.T) {
	none, many := 0, 0
	for seed := range uint32(20000) {
		v, l := odds(seed)
		switch n := checkWords(t, v, l); {
		case n == 0:
			none++
		case n > 5:
			many++
		}
	}
	if none < 1000 || many < 1000 {
		t.Fatalf("of %d lists none is taken, of %d more than five", none, many)
	}
}

func TestP14_2ChainOfWhatWasTaken(t *testing.T) {
	for seed := range uint32(400) {
		next := chance(seed)
		l := history(1+next(4), 2+next(12), next)
		taken, _ := Take(nil, mixed(l, next))
		checkChain(t, nil, taken, true)
		for i := range taken {
			left := slices.Delete(slices.Clone(taken), i, i+1)
			checkChain(t, nil, left, chainOf(nil, left))
			twice := slices.Insert(slices.Clone(taken), i, taken[i])
			checkChain(t, nil, twice, false)
			checkChain(t, nil, append(slices.Clone(taken), taken[i]), false)
			if i > 0 {
				changed := slices.Clone(taken)
				changed[i-1], changed[i] = changed[i], changed[i-1]
				hangs := vec.Has(changed[i-1].Deps, txn.Dot(changed[i]))
				checkChain(t, nil, changed, !hangs && chainOf(nil, changed))
			}
		}
	}
}

func TestP14_2LongLists(t *testing.T) {
	next := chance(7)
	const n = 1 << 16
	row := make([]api.Txn, n)
	for i := range row {
		row[i] = of(3, i+1, 0, 0, 0, i)
	}
	end := api.Vec{0, 0, 0, n}
	turned := slices.Clone(row)
	slices.Reverse(turned)
	checkTake(t, nil, row, row, end)
	checkTake(t, nil, turned, row, end)
	checkTake(t, nil, mixed(row, next), row, end)
	checkChain(t, nil, row, true)
	checkChain(t, nil, turned, false)
	// One is missing.
	checkTake(t, nil, slices.Delete(slices.Clone(turned), n/2, n/2+1), row[:n/2-1], api.Vec{0, 0, 0, n/2 - 1})
	// One of another node ahead of each, and one that never comes; all wait behind one.
	var knots, want []api.Txn
	for i := range n / 2 {
		knots = append(knots, of(0, i+1, i, i), of(1, i+1, i+1, i), of(2, 1, 0, n))
		want = append(want, of(0, i+1, i, i), of(1, i+1, i+1, i))
	}
	slices.Reverse(knots)
	checkTake(t, nil, knots, want, api.Vec{n / 2, n / 2})
	// All alike, and all alike behind the last one.
	checkTake(t, nil, slices.Repeat(row[:1], n), row[:1], api.Vec{0, 0, 0, 1})
	checkTake(t, nil, append(slices.Repeat(row[1:2], n), row[0]), row[:2], api.Vec{0, 0, 0, 2})
	checkTake(t, nil, slices.Repeat(row[1:2], n), nil, nil)
	// Of a node of which no vector says anything all are taken, however many.
	many := slices.Repeat(txns(of(9, 1)), n)
	checkTake(t, nil, many, many, nil)
	checkChain(t, nil, many, true)
	lost := slices.Repeat(txns(of(0, 1, 0, 0, 0, 0, 0, 0, 0, 0, 0, 1)), n)
	checkTake(t, nil, slices.Concat(lost, many), many, nil)
}

func TestP14_2LongDepsAndVectors(t *testing.T) {
	long := slices.Repeat(api.Vec{2}, 1<<16)
	x, y := of(5, 3, long...), of(5, 4, long...)
	end := slices.Clone(long)
	end[5] = 4
	checkTake(t, long, txns(y, x), txns(x, y), end)
	checkTake(t, long[:len(long)-1], txns(y, x), nil, long[:len(long)-1])
	checkChain(t, long, txns(x, y), true)
	checkChain(t, long[:9], txns(x, y), false)
}

func TestP14_3InWhateverOrder(t *testing.T) {
	// No two of one Node and Seq, some not formed, some missing: all orders of short lists.
	lists := [][]api.Txn{
		txns(of(0, 1), of(0, 2, 1), of(0, 3, 2), of(1, 1, 2), of(1, 2, 3, 1)),
		txns(of(0, 1), of(0, 3, 2), of(1, 1, 1), of(1, 2, 3, 1), of(2, 1)),
		txns(of(0, 1, 0, 1), of(1, 1, 1), of(2, 1), of(2, 2, 1), of(0, 0)),
		txns(of(8, 1), of(9, 1), of(0, 1), of(-1, 1, 1), of(8, 2)),
		txns(of(0, maxSeq+1), of(0, maxSeq), of(1, 1, maxSeq), of(1, 2, maxSeq+1), of(2, 1)),
		few()[:1], nil,
	}
	for seed := range uint32(300) {
		next := chance(seed)
		lists = append(lists, fewer(history(1+next(4), next(7), next), next(3), next))
	}
	for _, l := range lists {
		for _, v := range []api.Vec{nil, {0, -1, 0}, {1}, {1, 1, 0}, {maxSeq - 1}} {
			checkOrders(t, v, l, orders(l))
		}
	}
}

// checkOrders tells whether of a list, in whatever of these orders, the same ones are taken, to the same vector.
func checkOrders(t *testing.T, v api.Vec, l []api.Txn, all [][]api.Txn) {
	t.Helper()
	byName := func(a, b api.Txn) int {
		return slices.Compare([]int{a.Node, a.Seq}, []int{b.Node, b.Seq})
	}
	want, end := Take(v, l)
	slices.SortFunc(want, byName)
	for _, order := range all {
		taken, other := Take(v, order)
		slices.SortFunc(taken, byName)
		if !sameTxns(taken, want) || !slices.Equal(other, end) {
			t.Fatalf("Take(%s, ..) of %s takes %s, %s; of %s: %s, %s", short(v), short(l), short(want), short(end), short(order), short(taken), short(other))
		}
	}
}

func TestP14_3LongOnesInWhateverOrder(t *testing.T) {
	for seed := range uint32(300) {
		next := chance(seed)
		l := history(1+next(8), 10+next(190), next)
		checkTake(t, nil, l, l, end(l))
		l = fewer(l, next(4), next)
		var all [][]api.Txn
		for range 5 {
			all = append(all, mixed(l, next))
		}
		checkOrders(t, nil, l, all)
	}
}

// end is the vector behind a history.
func end(l []api.Txn) api.Vec {
	var v api.Vec
	for _, x := range l {
		for x.Node >= len(v) {
			v = append(v, 0)
		}
		v[x.Node] = x.Seq
	}
	return v
}

func TestP14_3WhatIsTakenIsAChain(t *testing.T) {
	for seed := range uint32(10000) {
		v, l := odds(seed)
		taken, end := Take(v, l)
		checkChain(t, v, taken, true)
		checkTake(t, v, taken, taken, end)
		checkTake(t, end, taken[:min(len(taken), 1)], nil, end)
		// Of what is left nothing is ready.
		left := slices.DeleteFunc(slices.Clone(l), func(x api.Txn) bool {
			return slices.ContainsFunc(taken, func(y api.Txn) bool { return placeOf(x) == placeOf(y) })
		})
		if len(left)+len(taken) != len(l) {
			t.Fatalf("Take(%s, %s) takes one twice, or one that is not there: %s", short(v), short(l), short(taken))
		}
		for _, x := range left {
			checkReady(t, end, x, false)
		}
		checkTake(t, end, left, nil, end)
		// The vector is that of them all, one behind the other.
		walked := v
		for _, x := range taken {
			walked = Next(walked, x)
		}
		if !slices.Equal(walked, end) || !vec.Within(v, end) {
			t.Fatalf("Take(%s, %s) ends at %s; want %s", short(v), short(l), short(end), short(walked))
		}
	}
}

// spare is a list that has more behind it as its spare room, and the whole of it.
func spare[T any](l []T, more ...T) (whole, laid []T) {
	whole = slices.Concat(l, more)
	return whole, whole[:len(l)]
}

// spareTxns is a list of transactions, with more behind each of the lists in it as spare room.
func spareTxns(l []api.Txn) []api.Txn {
	whole, laid := spare(l, of(0, 1), of(0, 2, 1))
	for i, x := range whole {
		_, whole[i].Deps = spare(x.Deps, 5, 6, 7)
		effs, effsLaid := spare(x.Effs, drop(3, "s", api.Dot{Seq: 1}))
		for j, e := range effs {
			_, effs[j].Drops = spare(e.Drops, api.Dot{Node: 5, Seq: 5, At: 5}, api.Dot{})
		}
		whole[i].Effs = effsLaid
	}
	return laid
}

// deep is a copy of l that shares nothing, each list with its spare room as a part of it.
func deep(l []api.Txn) []api.Txn {
	l = slices.Clone(l[:cap(l)])
	for i, x := range l {
		l[i].Deps = slices.Clone(x.Deps[:cap(x.Deps)])
		l[i].Effs = slices.Clone(x.Effs[:cap(x.Effs)])
		for j, e := range l[i].Effs {
			l[i].Effs[j].Drops = slices.Clone(e.Drops[:cap(e.Drops)])
		}
	}
	return l
}

// turn changes all of a list, spare room and all.
func turn[T any](l []T, to T) {
	l = l[:cap(l)]
	for i := range l {
		l[i] = to
	}
}

// turnTxns changes all lists of l, spare room and all.
func turnTxns(l []api.Txn) {
	for _, x := range l[:cap(l)] {
		turn(x.Deps, 77)
		for _, e := range x.Effs[:cap(x.Effs)] {
			turn(e.Drops, api.Dot{Node: 9, Seq: 9, At: 9})
		}
		turn(x.Effs, api.Eff{Key: "turned"})
	}
	turn(l, of(77, 77))
}

func TestP14_1NothingIsChangedOrShared(t *testing.T) {
	for _, said := range slices.Concat(vectors(), shortVectors(3, -1, 0, 1, 2)) {
		for _, node := range []int{-1, 0, 1, 3, 7, 8, 9} {
			for _, seq := range []int{-1, 0, 1, 2, 3, maxSeq, maxSeq + 1} {
				wholeVec, v := spare(said, 9, -1, 9)
				l := spareTxns(txns(of(node, seq, 1, 0, -1, 0)))
				before, beforeVec := deep(l), slices.Clone(wholeVec)
				if Ready(v, l[0]) != isReady(said, l[0]) {
					t.Fatalf("spare room tells in Ready of %s, %s", short(said), short(l[0]))
				}
				one, two := Next(v, l[0]), Next(v, l[0])
				turn(one, 55)
				if !sameTxns(deep(l), before) || !slices.Equal(wholeVec, beforeVec) {
					t.Fatalf("Ready or Next of %s, %s: what was handed in, or its spare room, was changed, or is shared", short(said), short(before[0]))
				}
				turn(wholeVec, 44)
				turnTxns(l)
				if want := nextOf(said, before[0]); !slices.Equal(two, want) {
					t.Fatalf("Next(%s, %s) shares: %s; want %s", short(said), short(before[0]), short(two), short(want))
				}
			}
		}
	}
}

func TestP14_2NothingIsChangedOrShared(t *testing.T) {
	for seed := range uint32(3000) {
		said, list := odds(seed)
		wholeVec, v := spare(said, 9, -1, 9)
		l := spareTxns(list)
		before, beforeVec := deep(l), slices.Clone(wholeVec)
		if Chain(v, l) != chainOf(said, list) {
			t.Fatalf("spare room tells in Chain of %s, %s", short(said), short(list))
		}
		one, oneEnd := Take(v, l)
		two, twoEnd := Take(v, l)
		turnTxns(one)
		turn(oneEnd, 55)
		if !sameTxns(deep(l), before) || !slices.Equal(wholeVec, beforeVec) {
			t.Fatalf("Take(%s, %s): what was handed in, or its spare room, was changed, or is shared", short(said), short(list))
		}
		want, wantEnd, _ := takeOf(said, list)
		turn(wholeVec, 44)
		turnTxns(l)
		if !sameTxns(two, want) || !slices.Equal(twoEnd, wantEnd) {
			t.Fatalf("Take(%s, %s) shares: %s, %s; want %s, %s", short(said), short(list), short(two), short(twoEnd), short(want), short(wantEnd))
		}
	}
}

func TestP14_2TheVectorAsItIsIsNewMemory(t *testing.T) {
	for _, said := range vectors() {
		wholeVec, v := spare(said, 9, 9)
		_, one := Take(v, txns(of(0, 0)))
		_, two := Take(v, nil)
		turn(one, 55)
		if !slices.Equal(wholeVec, append(slices.Clone(said), 9, 9)) || !slices.Equal(two, said) {
			t.Fatalf("Take(%s, ..) of none shares its vector: %s, %s", short(said), short(wholeVec), short(two))
		}
	}
}

func TestP14_2ListsOfOneAnswerAreApart(t *testing.T) {
	deps := api.Vec{1, 0, 0, 0}
	effs := []api.Eff{drop(0, "a", api.Dot{Seq: 1}), drop(1, "b", api.Dot{Seq: 1})}
	effs[1].Drops = effs[0].Drops
	l := txns(api.Txn{Node: 1, Seq: 1, Deps: deps, Effs: effs}, api.Txn{Node: 2, Seq: 1, Deps: deps[:3], Effs: effs[:1]}, api.Txn{Node: 3, Seq: 1, Deps: deps, Effs: effs})
	v := api.Vec{1}
	l[1].Deps = v
	for i := range l {
		got, end := Take(v, l)
		turnTxns(got[i : i+1 : i+1])
		_ = append(end, 8)
		for j := range l {
			if j != i && !same(got[j], l[j]) {
				t.Fatalf("lists of one answer share: when %d is turned, %d is %s", i, j, short(got[j]))
			}
		}
		if !slices.Equal(end, api.Vec{1, 1, 1, 1}) || !slices.Equal(v, api.Vec{1}) {
			t.Fatalf("the vector of an answer shares: %s, %s", short(end), short(v))
		}
	}
}

func TestP14_2SameEachTime(t *testing.T) {
	for seed := range uint32(200) {
		v, l := odds(seed)
		taken, end := Take(v, l)
		for range 10 {
			checkTake(t, v, l, taken, end)
		}
	}
}
