package queue

import (
	"fmt"
	"math"
	"slices"
	"strings"
	"testing"

	"buttery/api"
	"buttery/txn"
)

const (
	maxSeq   = 1 << 30
	maxQueue = 16
)

// ints are values of numbers: such as may be, and such as may not.
func ints() []int {
	return []int{
		math.MinInt, math.MinInt + 1, math.MinInt + 16, -1 << 40, -1<<32 + 1, math.MinInt32, -257, -256, -255, -17, -16, -8, -2, -1,
		0, 1, 2, 3, 7, 8, 9, 15, 16, 17, 18, 31, 32, 63, 64, 127, 128, 255, 256, 257, 272,
		maxSeq - 2, maxSeq - 1, maxSeq, maxSeq + 1, maxSeq + 2, math.MaxInt32, 1 << 31, 1 << 32, 1<<32 + 1, 1<<32 + 16, 1 << 40, math.MaxInt - 1, math.MaxInt,
	}
}

// dot is the dot of those parts.
func dot(node, seq, at int) api.Dot { return api.Dot{Node: node, Seq: seq, At: at} }

// put is an effect that makes a register's value.
func put(at int, key, e string, drops ...api.Dot) api.Eff {
	return api.Eff{At: at, Key: key, Kind: api.Reg, Elem: e, Drops: drops}
}

// of is the transaction seq of node, that hangs on the ones ahead of it alone.
func of(node, seq int, effs ...api.Eff) api.Txn {
	return api.Txn{Node: node, Seq: seq, Deps: deps(node, seq, 0), Effs: effs}
}

// deps are such as the transaction seq of node may have, that says n of all other nodes; none of a node that there is not.
func deps(node, seq, n int) api.Vec {
	if node < 0 || node > 7 {
		return nil
	}
	v := slices.Repeat(api.Vec{n}, 8)
	v[node] = seq - 1
	for len(v) > 0 && v[len(v)-1] == 0 {
		v = v[:len(v)-1]
	}
	return v
}

// rich is the transaction seq of node with something in each of its lists.
func rich(node, seq int) api.Txn {
	x := of(node, seq)
	x.Deps = deps(node, seq, 3)
	other := 7 - node
	x.Effs = []api.Eff{
		put(1, "a/b", "x", dot(other, 1, 7), dot(other, 3, 0)),
		{At: 2, Key: "c", Field: "f", Kind: api.Elem, Elem: "el\x80"},
		{At: 4, Key: "c", Field: "g", Kind: api.Count, N: -12345678901, Drops: []api.Dot{dot(other, 2, 5)}},
		{At: 7, Key: "0", Drops: []api.Dot{dot(node, seq, 1)}},
	}
	return x
}

// run are these transactions of one node, one number after the other.
func run(node, from, to int) []api.Txn {
	var l []api.Txn
	for seq := from; seq <= to; seq++ {
		l = append(l, of(node, seq))
	}
	return l
}

// txns are a list of these.
func txns(l ...api.Txn) []api.Txn { return l }

// queue is a queue of these parts.
func queue(most int, l ...api.Txn) api.Queue { return api.Queue{Most: most, List: l} }

// formed are transactions that are formed, at the edges and others.
func formed() []api.Txn {
	l := txns(of(0, 1), of(7, 1), of(0, maxSeq), of(7, maxSeq), of(3, 300), rich(0, 1), rich(2, 4), rich(3, maxSeq), rich(6, 2), rich(7, 1))
	x := of(1, 1)
	for at := range 8 {
		x.Effs = append(x.Effs, put(at, strings.Repeat("k", 16), strings.Repeat("\xff", 32)))
	}
	return append(l, x)
}

// unformed are transactions of this node and number that are not formed, each by one thing, where the node and the number may be.
func unformed(node, seq int) []api.Txn {
	var l []api.Txn
	one := func(turn func(x *api.Txn)) {
		x := rich(node, seq)
		turn(&x)
		l = append(l, x)
	}
	one(func(x *api.Txn) { x.Deps = deps(node, seq+1, 3) })
	one(func(x *api.Txn) { x.Deps = slices.Repeat(api.Vec{3}, 8); x.Deps[node] = seq - 2 })
	one(func(x *api.Txn) { x.Deps = append(slices.Repeat(api.Vec{3}, 8), 0); x.Deps[node] = seq - 1 })
	one(func(x *api.Txn) { x.Deps = append(slices.Repeat(api.Vec{3}, 8), 1); x.Deps[node] = seq - 1 })
	one(func(x *api.Txn) { x.Deps = append(of(node, seq).Deps, 0); x.Effs = nil })
	one(func(x *api.Txn) { x.Deps = append(of(node, seq).Deps, -1); x.Effs = nil })
	one(func(x *api.Txn) { x.Deps[7-node] = maxSeq + 1 })
	one(func(x *api.Txn) { x.Deps[7-node] = 2 })
	one(func(x *api.Txn) { x.Effs[0].Key = "" })
	one(func(x *api.Txn) { x.Effs[0].Key = "A" })
	one(func(x *api.Txn) { x.Effs[0].Kind = 4 })
	one(func(x *api.Txn) { x.Effs[0].At = 2 })
	one(func(x *api.Txn) { x.Effs[0].Drops[0].At = 8 })
	one(func(x *api.Txn) { x.Effs[1].N = 1 })
	one(func(x *api.Txn) { x.Effs[2].Elem = "x" })
	one(func(x *api.Txn) { x.Effs[3].At = 8 })
	one(func(x *api.Txn) { x.Effs[3].Drops = nil })
	one(func(x *api.Txn) { x.Effs[3].Drops = []api.Dot{dot(node, seq, 7)} })
	one(func(x *api.Txn) { x.Effs = slices.Repeat(x.Effs, 3) })
	return l
}

// odd are transactions of all kinds, such as no Push would take among them, and such as no vector can have heard.
func odd() []api.Txn {
	l := slices.Concat(formed(), unformed(1, 1), unformed(5, 4))
	for _, n := range ints() {
		l = append(l, api.Txn{Node: n, Seq: 1}, api.Txn{Node: 1, Seq: n}, api.Txn{Node: n, Seq: n, Deps: api.Vec{n, 0, n, 0}})
	}
	return append(l, api.Txn{}, api.Txn{Node: 9, Seq: 2, Effs: []api.Eff{{At: -1, Key: "\x00no key", Drops: []api.Dot{{}, {}}}, {}, {Key: "B"}, {Key: "b"}}})
}

// newOf, pushOf, heardOf and lastOf are what the document says of New, Push, Heard and Last.
func newOf(most int) (api.Queue, api.Errno) {
	if most < 0 || most > 16 {
		return api.Queue{}, api.ErrArg
	}
	return queue(most), api.OK
}

func pushOf(q api.Queue, x api.Txn) (api.Queue, api.Errno) {
	if !txn.Formed(x) {
		return api.Queue{}, api.ErrForm
	}
	if len(q.List) != 0 {
		last := q.List[len(q.List)-1]
		if x.Node != last.Node {
			return api.Queue{}, api.ErrGap
		}
		if x.Seq != last.Seq+1 {
			return api.Queue{}, api.ErrGap
		}
	}
	if len(q.List) >= q.Most {
		return api.Queue{}, api.ErrFull
	}
	return queue(q.Most, append(slices.Clone(q.List), x)...), api.OK
}

func heardOf(q api.Queue, v api.Vec) api.Queue {
	left := queue(q.Most)
	for _, x := range q.List {
		if !isHeard(v, x) {
			left.List = append(left.List, x)
		}
	}
	return left
}

func lastOf(q api.Queue) (api.Txn, bool) {
	if len(q.List) == 0 {
		return api.Txn{}, false
	}
	return q.List[len(q.List)-1], true
}

// isHeard is what it says of a transaction whose Dot v has heard.
func isHeard(v api.Vec, x api.Txn) bool {
	for node, n := range v {
		if node == x.Node {
			return x.Seq >= 1 && x.Seq <= n
		}
	}
	return false
}

// same, sameTxns and sameQueue tell whether two are the same, lists that are nil like empty ones.
func same(a, b api.Txn) bool {
	sameEff := func(a, b api.Eff) bool {
		return a.At == b.At && a.Key == b.Key && a.Field == b.Field && a.Kind == b.Kind && a.Elem == b.Elem && a.N == b.N && slices.Equal(a.Drops, b.Drops)
	}
	return a.Node == b.Node && a.Seq == b.Seq && slices.Equal(a.Deps, b.Deps) && slices.EqualFunc(a.Effs, b.Effs, sameEff)
}

func sameTxns(a, b []api.Txn) bool { return slices.EqualFunc(a, b, same) }

func sameQueue(a, b api.Queue) bool { return a.Most == b.Most && sameTxns(a.List, b.List) }

// short tells a value, no longer than one can read.
func short(v any) string {
	s := fmt.Sprintf("%+v", v)
	if len(s) > 1500 {
		return s[:1500] + ".."
	}
	return s
}

func checkNew(t *testing.T, most int, want api.Queue, wantErr api.Errno) {
	t.Helper()
	if got, err := New(most); err != wantErr || !sameQueue(got, want) {
		t.Fatalf("New(%d) = %s, %d; want %s, %d", most, short(got), err, short(want), wantErr)
	}
}

func checkPush(t *testing.T, q api.Queue, x api.Txn, want api.Queue, wantErr api.Errno) {
	t.Helper()
	if got, err := Push(q, x); err != wantErr || !sameQueue(got, want) {
		t.Fatalf("Push(%s, %s) = %s, %d; want %s, %d", short(q), short(x), short(got), err, short(want), wantErr)
	}
}

// checkPushed asks that x goes in, and checkRefused that it doesn't, with this error.
func checkPushed(t *testing.T, q api.Queue, x api.Txn) {
	t.Helper()
	checkPush(t, q, x, queue(q.Most, append(slices.Clone(q.List), x)...), api.OK)
}

func checkRefused(t *testing.T, q api.Queue, x api.Txn, want api.Errno) {
	t.Helper()
	checkPush(t, q, x, api.Queue{}, want)
}

func checkHeard(t *testing.T, q api.Queue, v api.Vec, want api.Queue) {
	t.Helper()
	if got := Heard(q, v); !sameQueue(got, want) {
		t.Fatalf("Heard(%s, %s) = %s; want %s", short(q), short(v), short(got), short(want))
	}
}

func checkLast(t *testing.T, q api.Queue, want api.Txn, wantThere bool) {
	t.Helper()
	if got, there := Last(q); there != wantThere || !same(got, want) {
		t.Fatalf("Last(%s) = %s, %t; want %s, %t", short(q), short(got), there, short(want), wantThere)
	}
}

// checkWords holds all calls of q against what the document says.
func checkWords(t *testing.T, q api.Queue, l []api.Txn, vectors []api.Vec) {
	t.Helper()
	last, there := lastOf(q)
	checkLast(t, q, last, there)
	for _, x := range l {
		want, err := pushOf(q, x)
		checkPush(t, q, x, want, err)
	}
	for _, v := range vectors {
		checkHeard(t, q, v, heardOf(q, v))
	}
}

// rows are all lists of at most so many of these.
func rows[T any](most int, of ...T) [][]T {
	l := [][]T{nil}
	for from := 0; most > 0; most-- {
		end := len(l)
		for _, row := range l[from:end] {
			for _, x := range of {
				l = append(l, append(slices.Clone(row), x))
			}
		}
		from = end
	}
	return l
}

// vectors are all of at most so many of these numbers.
func vectors(most int, numbers ...int) []api.Vec {
	var l []api.Vec
	for _, row := range rows(most, numbers...) {
		l = append(l, row)
	}
	return l
}

// chance answers numbers below what it is asked, always the same ones for a seed.
func chance(seed uint32) func(below int) int {
	state := seed*2654435761 + 12345
	return func(below int) int {
		state = state*1664525 + 1013904223
		return int(state >> 8 % uint32(below))
	}
}

// oneOf is some one of these.
func oneOf[T any](next func(int) int, l ...T) T { return l[next(len(l))] }

func TestTheWordsKnowWhatIsFormed(t *testing.T) {
	for _, x := range formed() {
		if !txn.Formed(x) {
			t.Errorf("%s is not formed", short(x))
		}
	}
	for _, seq := range []int{1, 2, 4, maxSeq - 1, maxSeq} {
		for node := range 8 {
			if !txn.Formed(of(node, seq)) || !txn.Formed(rich(node, seq)) {
				t.Errorf("%s or %s is not formed", short(of(node, seq)), short(rich(node, seq)))
			}
			for _, x := range unformed(node, seq) {
				if x.Node != node || x.Seq != seq || txn.Formed(x) {
					t.Errorf("%s is formed, or of another name", short(x))
				}
			}
		}
	}
}
