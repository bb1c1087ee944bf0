package past

import (
	"fmt"
	"math"
	"slices"
	"testing"

	"buttery/api"
	"buttery/order"
	"buttery/txn"
	"buttery/vec"
)

const (
	maxSeq  = 1 << 30
	maxTxns = 4096
)

// ints are values of a vector's numbers, and of a transaction's: such as may be, and such as may not.
func ints() []int {
	return []int{
		math.MinInt, math.MinInt + 1, -1 << 40, -1<<32 + 1, -8, -2, -1, 0, 1, 2, 3, 7, 8, 9, 127, 128,
		maxSeq - 2, maxSeq - 1, maxSeq, maxSeq + 1, maxSeq + 2, 1 << 31, 1 << 32, 1<<32 + 1, math.MaxInt - 1, math.MaxInt,
	}
}

// dot is the dot of those parts.
func dot(node, seq, at int) api.Dot { return api.Dot{Node: node, Seq: seq, At: at} }

// put and del are effects that make a register's value and nothing.
func put(at int, key, e string, drops ...api.Dot) api.Eff {
	return api.Eff{At: at, Key: key, Kind: api.Reg, Elem: e, Drops: drops}
}

func del(at int, key string, drops ...api.Dot) api.Eff {
	return api.Eff{At: at, Key: key, Drops: drops}
}

// of is a transaction of these parts.
func of(node, seq int, deps ...int) api.Txn { return api.Txn{Node: node, Seq: seq, Deps: deps} }

// with is x with these effects.
func with(x api.Txn, effs ...api.Eff) api.Txn {
	x.Effs = effs
	return x
}

// txns are a list of these.
func txns(l ...api.Txn) []api.Txn { return l }

// kept is a past of these parts.
func kept(floor api.Vec, l ...api.Txn) api.Past { return api.Past{Floor: floor, List: l} }

// run is these transactions of one node, that hang on nothing of another one.
func run(node, from, to int) []api.Txn {
	var l []api.Txn
	for seq := from; seq <= to; seq++ {
		l = append(l, of(node, seq, trimmed(append(make(api.Vec, node), seq-1)...)...))
	}
	return l
}

// trimmed is the vector of these numbers as it is when it is trimmed.
func trimmed(v ...int) api.Vec {
	v = slices.Clone(v)
	for node, n := range v {
		if n < 0 {
			v[node] = 0
		}
	}
	for len(v) > 0 && v[len(v)-1] == 0 {
		v = v[:len(v)-1]
	}
	return v
}

// upTo is what a vector says of a node.
func upTo(v api.Vec, node int) int {
	if 0 <= node && node < len(v) && v[node] > 0 {
		return v[node]
	}
	return 0
}

// isWithin is what the document says of a vector that is within another one.
func isWithin(a, b api.Vec) bool {
	for node, n := range a {
		if n > upTo(b, node) {
			return false
		}
	}
	return true
}

// isHeard tells whether v has heard x.
func isHeard(v api.Vec, x api.Txn) bool { return 1 <= x.Seq && x.Seq <= upTo(v, x.Node) }

// isReady is what it says of a transaction that is ready.
func isReady(v api.Vec, x api.Txn) bool {
	return x.Seq >= 1 && upTo(v, x.Node) == x.Seq-1 && isWithin(x.Deps, v)
}

// nextOf is what it says of order.Next.
func nextOf(v api.Vec, x api.Txn) api.Vec {
	if x.Node < 0 || x.Node > 7 || x.Seq < 0 || x.Seq > 1073741824 {
		return trimmed(v...)
	}
	next := slices.Concat(v, make(api.Vec, 8))
	next[x.Node] = x.Seq
	return trimmed(next...)
}

// endOf is what it says of End.
func endOf(p api.Past) api.Vec {
	v := p.Floor
	for _, x := range p.List {
		v = nextOf(v, x)
	}
	return trimmed(v...)
}

// isSound is what it says of Sound.
func isSound(p api.Past) bool {
	v := p.Floor
	for _, x := range p.List {
		if !txn.Formed(x) || !isReady(v, x) {
			return false
		}
		v = nextOf(v, x)
	}
	return slices.Equal(p.Floor, trimmed(p.Floor...))
}

// keepOf is what it says of Keep.
func keepOf(p api.Past, x api.Txn) (api.Past, api.Errno) {
	end := endOf(p)
	if !txn.Formed(x) {
		return api.Past{}, api.ErrForm
	}
	if isHeard(end, x) {
		return api.Past{}, api.ErrOld
	}
	if !isReady(end, x) {
		return api.Past{}, api.ErrGap
	}
	if len(p.List) >= 4096 {
		return api.Past{}, api.ErrFull
	}
	return api.Past{Floor: p.Floor, List: append(slices.Clone(p.List), x)}, api.OK
}

// leftOf is those of l that v hasn't heard.
func leftOf(l []api.Txn, v api.Vec) []api.Txn {
	var left []api.Txn
	for _, x := range l {
		if !isHeard(v, x) {
			left = append(left, x)
		}
	}
	return left
}

// sinceOf is what it says of Since.
func sinceOf(p api.Past, v api.Vec) ([]api.Txn, api.Errno) {
	if !isWithin(p.Floor, v) {
		return nil, api.ErrPruned
	}
	return leftOf(p.List, v), api.OK
}

// pruneOf is what it says of Prune.
func pruneOf(p api.Past, to api.Vec) api.Past {
	end := endOf(p)
	var floor api.Vec
	for node := range max(len(p.Floor), len(end)) {
		floor = append(floor, max(upTo(p.Floor, node), min(upTo(to, node), upTo(end, node))))
	}
	floor = trimmed(floor...)
	return api.Past{Floor: floor, List: leftOf(p.List, floor)}
}

// same, sameTxns and samePast tell whether two are the same, lists that are nil like empty ones.
func same(a, b api.Txn) bool {
	sameEff := func(a, b api.Eff) bool {
		return a.At == b.At && a.Key == b.Key && a.Field == b.Field && a.Kind == b.Kind && a.Elem == b.Elem && a.N == b.N && slices.Equal(a.Drops, b.Drops)
	}
	return a.Node == b.Node && a.Seq == b.Seq && slices.Equal(a.Deps, b.Deps) && slices.EqualFunc(a.Effs, b.Effs, sameEff)
}

func sameTxns(a, b []api.Txn) bool { return slices.EqualFunc(a, b, same) }

func samePast(a, b api.Past) bool { return slices.Equal(a.Floor, b.Floor) && sameTxns(a.List, b.List) }

// short tells a value, no longer than one can read.
func short(v any) string {
	s := fmt.Sprintf("%+v", v)
	if len(s) > 1500 {
		return s[:1500] + ".."
	}
	return s
}

func checkSound(t *testing.T, p api.Past, want bool) {
	t.Helper()
	if got := Sound(p); got != want {
		t.Fatalf("Sound(%s) = %t; want %t", short(p), got, want)
	}
}

func checkEnd(t *testing.T, p api.Past, want api.Vec) {
	t.Helper()
	if got := End(p); !slices.Equal(got, want) {
		t.Fatalf("End(%s) = %s; want %s", short(p), short(got), short(want))
	}
}

func checkKeep(t *testing.T, p api.Past, x api.Txn, want api.Past, wantErr api.Errno) {
	t.Helper()
	if got, err := Keep(p, x); err != wantErr || !samePast(got, want) {
		t.Fatalf("Keep(%s, %s) = %s, %d; want %s, %d", short(p), short(x), short(got), err, short(want), wantErr)
	}
}

func checkSince(t *testing.T, p api.Past, v api.Vec, want []api.Txn, wantErr api.Errno) {
	t.Helper()
	if got, err := Since(p, v); err != wantErr || !sameTxns(got, want) {
		t.Fatalf("Since(%s, %s) = %s, %d; want %s, %d", short(p), short(v), short(got), err, short(want), wantErr)
	}
}

func checkPrune(t *testing.T, p api.Past, to api.Vec, want api.Past) {
	t.Helper()
	if got := Prune(p, to); !samePast(got, want) {
		t.Fatalf("Prune(%s, %s) = %s; want %s", short(p), short(to), short(got), short(want))
	}
}

// checkWords holds all calls against what the document says.
func checkWords(t *testing.T, p api.Past, l []api.Txn, vectors []api.Vec) {
	t.Helper()
	checkSound(t, p, isSound(p))
	checkEnd(t, p, endOf(p))
	for _, x := range l {
		want, err := keepOf(p, x)
		checkKeep(t, p, x, want, err)
	}
	for _, v := range vectors {
		want, err := sinceOf(p, v)
		checkSince(t, p, v, want, err)
		checkPrune(t, p, v, pruneOf(p, v))
	}
}

// rows are all lists of at most so many of these.
func rows[T any](most int, of ...T) [][]T {
	l := [][]T{nil}
	for from := 0; most > 0; most-- {
		end := len(l)
		for _, row := range l[from:end] {
			for _, x := range of {
				l = append(l, append(slices.Clone(row), x))
			}
		}
		from = end
	}
	return l
}

// shortVectors are all vectors of at most so many of these numbers.
func shortVectors(most int, numbers ...int) []api.Vec {
	var l []api.Vec
	for _, row := range rows(most, numbers...) {
		l = append(l, row)
	}
	return l
}

// chance answers numbers below what it is asked, always the same ones for a seed.
func chance(seed uint32) func(below int) int {
	state := seed*2654435761 + 12345
	return func(below int) int {
		state = state*1664525 + 1013904223
		return int(state >> 8 % uint32(below))
	}
}

// oneOf is some one of these.
func oneOf[T any](next func(int) int, l ...T) T { return l[next(len(l))] }

// history is what these many nodes make, n transactions one behind the other from floor on, that hang on what their nodes had heard by then; with no two of one Node and Seq.
func history(floor api.Vec, nodes, n int, next func(int) int) []api.Txn {
	heard := make([]api.Vec, nodes)
	for node := range heard {
		heard[node] = trimmed(append(make(api.Vec, node), upTo(floor, node))...)
		if next(2) == 0 {
			heard[node] = floor
		}
	}
	var l []api.Txn
	for range n {
		node := next(nodes)
		if next(2) == 0 {
			heard[node] = vec.Join(heard[node], heard[next(nodes)])
		}
		x := of(node, upTo(heard[node], node)+1, heard[node]...)
		x.Effs = someEffs(x, next)
		heard[node] = nextOf(heard[node], x)
		l = append(l, x)
	}
	return l
}

// someEffs are effects that x may have.
func someEffs(x api.Txn, next func(int) int) []api.Eff {
	var l []api.Eff
	for at := range 8 {
		if next(4) > 0 {
			continue
		}
		e := put(at, oneOf(next, "a", "b", "c/d"), oneOf(next, "", "x", "y"))
		if node := next(8); upTo(x.Deps, node) > 0 {
			e.Drops = []api.Dot{dot(node, x.Deps[node], next(3)), dot(node, x.Deps[node], 3+next(5))}
		}
		l = append(l, e)
	}
	return l
}

// floors are such as a sound past may have.
func floors() []api.Vec {
	return []api.Vec{nil, {1}, {0, 3}, {2, 0, 5}, {0, 0, 0, 0, 0, 0, 0, 4}, {7, 7, 7, 7, 7, 7, 7, 7}, {maxSeq - 30, 1}, {0, 1, 0, 0, 0, 0, 0, 0, 0, 6}, {maxSeq + 1, 0, 0, 2, 0, 0, 0, 0, math.MaxInt - 9}}
}

// someSound is a past that is sound.
func someSound(next func(int) int) api.Past {
	floor := oneOf(next, floors()...)
	nodes := 1 + next(8)
	l := history(floor, nodes, next(20), next)
	// Of a node of which no number more can be told nothing is kept.
	cut := slices.IndexFunc(l, func(x api.Txn) bool { return !txn.Formed(x) })
	if cut >= 0 {
		l = l[:cut]
	}
	return kept(floor, l...)
}

// unsound is p with something wrong, or not.
func unsound(p api.Past, next func(int) int) api.Past {
	p = api.Past{Floor: slices.Clone(p.Floor), List: slices.Clone(p.List)}
	if n := len(p.List); n > 0 {
		i, j := next(n), next(n)
		switch next(9) {
		case 0:
			p.List = slices.Delete(p.List, i, i+1)
		case 1:
			p.List[i], p.List[j] = p.List[j], p.List[i]
		case 2:
			p.List = slices.Insert(p.List, i, p.List[j])
		case 3:
			p.List[i] = unformed(p.List[i], next)
		case 4:
			p.List = slices.Insert(p.List, i, unformed(p.List[j], next))
		}
	}
	switch next(9) {
	case 0:
		p.Floor = append(p.Floor, 0)
	case 1:
		p.Floor = append(p.Floor, oneOf(next, -1, math.MinInt))
	case 2:
		p.Floor = append(p.Floor, 0, 0, 0, 0, 0, 0, 0, 0, oneOf(next, 3, -3, 0))
	case 3:
		p.Floor = append(api.Vec{-2, -1}, p.Floor...)
	case 4:
		p.Floor = p.Floor[:next(len(p.Floor)+1)]
	}
	return p
}

// unformed is x with something wrong.
func unformed(x api.Txn, next func(int) int) api.Txn {
	x.Deps, x.Effs = slices.Clone(x.Deps), slices.Clone(x.Effs)
	switch next(7) {
	case 0:
		x.Node = oneOf(next, -1, 8, 9, math.MinInt, math.MaxInt)
	case 1:
		x.Seq = oneOf(next, 0, -1, maxSeq+1, math.MaxInt)
	case 2:
		x.Deps = append(x.Deps, 0)
	case 3:
		x.Deps = append(make(api.Vec, 8), 1)
	case 4:
		x.Effs = append(x.Effs, put(8, "a", "x"))
	case 5:
		x.Effs = append([]api.Eff{put(-1, "a", "x")}, x.Effs...)
	case 6:
		x.Effs = []api.Eff{del(0, "a", dot(x.Node, x.Seq, 0))}
	}
	return x
}

// somewhere is a vector near to what p has: closed or not, trimmed or not.
func somewhere(p api.Past, next func(int) int) api.Vec {
	v := slices.Clone(oneOf(next, p.Floor, endOf(p), nil))
	for range next(4) {
		v = nextOf(v, of(next(8), next(7)))
	}
	for range next(3) {
		v = append(v, oneOf(next, 0, 0, -1, 3, 1000))
	}
	for node := range v {
		if next(6) == 0 {
			v[node] += oneOf(next, -1, 1)
		}
	}
	return v
}

// odds are a past, sound or not, some transactions for it, and some vectors.
func odds(seed uint32) (api.Past, []api.Txn, []api.Vec) {
	next := chance(seed)
	p := someSound(next)
	more := history(endOf(p), 1+next(8), 4, next)
	l := append(more, of(next(8), next(4)), unformed(more[0], next))
	if len(p.List) > 0 {
		l = append(l, p.List[0], p.List[len(p.List)-1])
	}
	p = unsound(p, next)
	v := []api.Vec{nil, p.Floor, endOf(p)}
	for range 5 {
		v = append(v, somewhere(p, next))
	}
	return p, l, v
}

// three is the chapter's example: three transactions of node 0.
func three() api.Past { return kept(nil, run(0, 1, 3)...) }

// twoNodes is a past of two nodes, of which the second one hangs on the first, and the other way round.
func twoNodes() api.Past {
	return kept(api.Vec{1, 0, 4}, of(0, 2, 1), of(1, 1, 2), of(0, 3, 2, 1, 4), of(1, 2, 2, 1), of(2, 5, 3, 2, 4))
}

func TestP16_1SoundKnown(t *testing.T) {
	one, two, behind := of(0, 1), of(0, 2, 1), of(1, 1, 2)
	for _, c := range []struct {
		p    api.Past
		want bool
	}{
		// The empty past; without a list, without a Floor.
		{api.Past{}, true},
		{api.Past{Floor: api.Vec{}, List: []api.Txn{}}, true},
		{kept(api.Vec{1}), true},
		{kept(api.Vec{0, 0, 5}), true},
		{kept(nil, one), true},
		{kept(nil, one, two, behind), true},
		{three(), true},
		// From the Floor on.
		{twoNodes(), true},
		{kept(api.Vec{1}, two, behind), true},
		{kept(api.Vec{2}, behind), true},
		{kept(api.Vec{2, 0, 7}, behind), true},
		{kept(api.Vec{1}, behind), false},
		{kept(api.Vec{1}, one, two), false},
		{kept(api.Vec{3}, two, behind), false},
		{kept(api.Vec{0, 1}, one, two, behind), false},
		// The Floor isn't trimmed.
		{kept(api.Vec{0}), false},
		{kept(api.Vec{1, 0}), false},
		{kept(api.Vec{1, 0}, two, behind), false},
		{kept(api.Vec{-1}, one), false},
		{kept(api.Vec{1, -1}, two), false},
		{kept(api.Vec{1, -1, 3}, two), false},
		{kept(api.Vec{1, 0, 0, 0, 0, 0, 0, 0, 0}, two), false},
		{kept(make(api.Vec, 1<<20), one), false},
		// A Floor that says more than transactions can.
		{kept(api.Vec{maxSeq + 1}), true},
		{kept(api.Vec{0, math.MaxInt}, one, two), true},
		{kept(api.Vec{1, 0, 0, 0, 0, 0, 0, 0, 9}, two, behind), true},
		{kept(api.Vec{1, 0, 0, 0, 0, 0, 0, 0, -9}, two, behind), false},
		{kept(slices.Repeat(api.Vec{1}, 1<<20), two), true},
		// One is missing, two are in the wrong order, one Dot stands there twice.
		{kept(nil, two, behind), false},
		{kept(nil, one, behind), false},
		{kept(nil, one, of(0, 3, 2)), false},
		{kept(nil, two, one, behind), false},
		{kept(nil, one, behind, two), false},
		{kept(nil, one, one, two), false},
		{kept(nil, one, two, two), false},
		{kept(nil, one, two, behind, one), false},
		{kept(nil, one, with(one, put(0, "a", "x"))), false},
		// Deps are above what comes ahead in one place alone.
		{kept(nil, one, two, of(1, 1, 3)), false},
		{kept(nil, one, two, of(1, 1, 2, 0, 0, 0, 0, 0, 0, 1)), false},
		// One is not formed: by its Node, Seq, Deps, effects or Drops.
		{kept(nil, api.Txn{}), false},
		{kept(nil, of(8, 1)), false},
		{kept(nil, of(-1, 1)), false},
		{kept(api.Vec{0, 0, 0, 0, 0, 0, 0, 0, 1}, of(8, 2, 0, 0, 0, 0, 0, 0, 0, 0, 1)), false},
		{kept(nil, one, of(0, 2)), false},
		{kept(nil, one, of(0, 2, 1, 0)), false},
		{kept(nil, one, of(0, 2, 1, -1)), false},
		{kept(api.Vec{maxSeq}, of(0, maxSeq+1, maxSeq)), false},
		{kept(api.Vec{maxSeq - 1}, of(0, maxSeq, maxSeq-1)), true},
		{kept(nil, with(one, put(0, "a", "x"), put(7, "b", "y"))), true},
		{kept(nil, with(one, put(8, "a", "x"))), false},
		{kept(nil, with(one, put(1, "a", "x"), put(1, "b", "x"))), false},
		{kept(nil, with(one, put(0, "", "x"))), false},
		{kept(nil, with(one, del(0, "a"))), false},
		{kept(nil, one, with(two, del(0, "a", dot(0, 1, 0)))), true},
		{kept(nil, one, with(two, del(0, "a", dot(0, 2, 0)))), false},
		{kept(nil, one, of(1, 1, 1), with(two, del(0, "a", dot(1, 1, 0)))), false},
	} {
		checkSound(t, c.p, c.want)
		if isSound(c.p) != c.want {
			t.Fatalf("the words of these tests say %t of %s", !c.want, short(c.p))
		}
	}
}

func TestP16_1SoundByEachPlace(t *testing.T) {
	// One transaction of a long list goes, comes once more, changes places or isn't formed.
	for seed := range uint32(200) {
		next := chance(seed)
		p := someSound(next)
		checkSound(t, p, true)
		for i, x := range p.List {
			without := slices.Delete(slices.Clone(p.List), i, i+1)
			// The last one of its node, on which none hangs, may go.
			checkSound(t, kept(p.Floor, without...), isSound(kept(p.Floor, without...)))
			checkSound(t, kept(p.Floor, p.List[:i]...), true)
			for j := range p.List {
				checkSound(t, kept(p.Floor, slices.Insert(slices.Clone(p.List), j, x)...), false)
			}
			for j := range without {
				moved := kept(p.Floor, slices.Insert(slices.Clone(without), j, x)...)
				checkSound(t, moved, isSound(moved))
			}
			wrong := slices.Clone(p.List)
			wrong[i].Effs = append(slices.Clone(x.Effs), put(8, "a", "x"))
			checkSound(t, kept(p.Floor, wrong...), false)
			wrong[i] = x
			wrong[i].Deps = append(slices.Clone(x.Deps), 0)
			checkSound(t, kept(p.Floor, wrong...), false)
		}
	}
}

func TestP16_1SoundByEachNumberOfFloor(t *testing.T) {
	for nodes := 1; nodes < 12; nodes++ {
		for place := range nodes {
			for _, n := range ints() {
				v := slices.Repeat(api.Vec{5}, nodes)
				v[place] = n
				fits := n > 0 || n == 0 && place < nodes-1
				checkSound(t, kept(v), fits)
				for node := range min(nodes, 8) {
					// The next one of this node, that hangs on all that nodes are said to have made.
					deps := slices.Clone(v[:min(nodes, 8)])
					x := of(node, max(v[node], 0)+1, trimmed(deps...)...)
					mayBe := (n <= maxSeq || place >= 8) && x.Seq <= maxSeq
					checkSound(t, kept(v, x), fits && mayBe)
				}
			}
		}
	}
}

func TestP16_1EndKnown(t *testing.T) {
	one, two := of(0, 1), of(0, 2, 1)
	for _, c := range []struct {
		p    api.Past
		want api.Vec
	}{
		{api.Past{}, nil},
		{api.Past{Floor: api.Vec{}, List: []api.Txn{}}, nil},
		{kept(api.Vec{1, 0, 5}), api.Vec{1, 0, 5}},
		{three(), api.Vec{3}},
		{twoNodes(), api.Vec{3, 2, 5}},
		{kept(api.Vec{2, 0, 7}, of(1, 1, 2)), api.Vec{2, 1, 7}},
		{kept(nil, of(7, 1)), api.Vec{0, 0, 0, 0, 0, 0, 0, 1}},
		{kept(api.Vec{maxSeq - 1}, of(0, maxSeq, maxSeq-1)), api.Vec{maxSeq}},
		// The Floor isn't trimmed.
		{kept(api.Vec{0}), nil},
		{kept(api.Vec{-1, 0, -1}), nil},
		{kept(api.Vec{-1, 2, -1, 0}), api.Vec{0, 2}},
		{kept(api.Vec{-1, 2, -1, 0}, one), api.Vec{1, 2}},
		{kept(api.Vec{0, 0, 0}, one, two), api.Vec{2}},
		{kept(make(api.Vec, 20), one, two), api.Vec{2}},
		// Lists that are no chain: each counts, whether it is ready or not, the last one of a node most.
		{kept(nil, two), api.Vec{2}},
		{kept(nil, two, one), api.Vec{1}},
		{kept(api.Vec{9}, one, two), api.Vec{2}},
		{kept(api.Vec{9, 1}, one, of(1, 1, 5)), api.Vec{1, 1}},
		{kept(nil, of(0, 5, 7, 7, 7)), api.Vec{5}},
		{kept(api.Vec{4, 1}, of(1, 0)), api.Vec{4}},
		{kept(api.Vec{0, 1}, of(1, 0)), nil},
		{kept(api.Vec{0, 1}, one, of(1, 0), of(0, 0)), nil},
		{kept(api.Vec{4}, api.Txn{}), nil},
		// What no vector can say counts for nothing, and the Floor is trimmed by it.
		{kept(api.Vec{1, 0, -1}, of(8, 1)), api.Vec{1}},
		{kept(api.Vec{1}, of(-1, 2), of(0, -1), of(0, maxSeq+1), of(math.MaxInt, 1), of(math.MinInt, 1)), api.Vec{1}},
		{kept(api.Vec{1}, of(0, maxSeq+1), two), api.Vec{2}},
		{kept(api.Vec{maxSeq + 5}, of(0, maxSeq+6)), api.Vec{maxSeq + 5}},
		// Floors that are longer than nodes there are.
		{kept(api.Vec{1, 0, 0, 0, 0, 0, 0, 0, 6}, two), api.Vec{2, 0, 0, 0, 0, 0, 0, 0, 6}},
		{kept(api.Vec{1, 0, 0, 0, 0, 0, 0, 0, 6}, of(8, 7), of(8, 1)), api.Vec{1, 0, 0, 0, 0, 0, 0, 0, 6}},
		{kept(api.Vec{1, 0, 0, 0, 0, 0, 0, 0, 6}, of(0, 0)), api.Vec{0, 0, 0, 0, 0, 0, 0, 0, 6}},
		{kept(api.Vec{1, 0, 0, 0, 0, 0, 0, -3, -6, 0}, two), api.Vec{2}},
		{kept(api.Vec{-1, 0, 0, 0, 0, 0, 0, 0, -6, math.MaxInt, 0}, of(7, 3)), api.Vec{0, 0, 0, 0, 0, 0, 0, 3, 0, math.MaxInt}},
	} {
		checkEnd(t, c.p, c.want)
		if got := endOf(c.p); !slices.Equal(got, c.want) {
			t.Fatalf("the words of these tests say %s of %s", short(got), short(c.p))
		}
	}
}

func TestP16_1EndByEachNumber(t *testing.T) {
	for _, node := range ints() {
		for _, seq := range ints() {
			for _, floor := range []api.Vec{nil, {3, 0}, {-1, 2}, {5, 5, 5, 5, 5, 5, 5, 5}, {5, 5, 5, 5, 5, 5, 5, 5, 5, 5, 0}} {
				p := kept(floor, of(0, 2), of(node, seq, 4, 4))
				checkEnd(t, p, endOf(p))
				p.List = append(p.List, of(7, 9))
				checkEnd(t, p, endOf(p))
			}
		}
	}
}

func TestP16_1KeepKnown(t *testing.T) {
	for _, c := range []struct {
		p    api.Past
		t    api.Txn
		want api.Past
	}{
		{api.Past{}, of(0, 1), kept(nil, of(0, 1))},
		{api.Past{}, of(7, 1), kept(nil, of(7, 1))},
		{kept(nil, run(0, 1, 2)...), of(0, 3, 2), three()},
		{three(), of(1, 1), kept(nil, of(0, 1), of(0, 2, 1), of(0, 3, 2), of(1, 1))},
		{three(), of(1, 1, 3), kept(nil, of(0, 1), of(0, 2, 1), of(0, 3, 2), of(1, 1, 3))},
		{kept(api.Vec{2, 0, 7}), of(1, 1, 2, 0, 7), kept(api.Vec{2, 0, 7}, of(1, 1, 2, 0, 7))},
		{kept(api.Vec{1}, of(0, 2, 1)), of(0, 3, 2), kept(api.Vec{1}, of(0, 2, 1), of(0, 3, 2))},
		{kept(api.Vec{maxSeq - 1}), of(0, maxSeq, maxSeq-1), kept(api.Vec{maxSeq - 1}, of(0, maxSeq, maxSeq-1))},
		{three(), with(of(1, 1, 3), put(0, "a", "x", dot(0, 1, 0), dot(0, 3, 7)), del(7, "b", dot(1, 1, 0))),
			kept(nil, of(0, 1), of(0, 2, 1), of(0, 3, 2), with(of(1, 1, 3), put(0, "a", "x", dot(0, 1, 0), dot(0, 3, 7)), del(7, "b", dot(1, 1, 0))))},
		// Pasts that are not sound: all stands as it did, ahead of what comes.
		{kept(api.Vec{0, -1, 0}), of(0, 1), kept(api.Vec{0, -1, 0}, of(0, 1))},
		{kept(api.Vec{-4}), of(1, 1), kept(api.Vec{-4}, of(1, 1))},
		{kept(nil, of(0, 2), of(0, 1)), of(0, 2, 1), kept(nil, of(0, 2), of(0, 1), of(0, 2, 1))},
		{kept(nil, of(0, 2)), of(0, 3, 2), kept(nil, of(0, 2), of(0, 3, 2))},
		{kept(api.Vec{5}, of(0, 0)), of(0, 1), kept(api.Vec{5}, of(0, 0), of(0, 1))},
		{kept(nil, api.Txn{}, of(8, 1), with(of(-1, -1, -1, 0), del(9, "?"))), of(0, 1), kept(nil, api.Txn{}, of(8, 1), with(of(-1, -1, -1, 0), del(9, "?")), of(0, 1))},
		{kept(api.Vec{1, 0, 0, 0, 0, 0, 0, 0, 6, 0}), of(0, 2, 1), kept(api.Vec{1, 0, 0, 0, 0, 0, 0, 0, 6, 0}, of(0, 2, 1))},
		{kept(api.Vec{0, maxSeq + 1}), of(0, 1, 0, maxSeq), kept(api.Vec{0, maxSeq + 1}, of(0, 1, 0, maxSeq))},
	} {
		checkKeep(t, c.p, c.t, c.want, api.OK)
		if got, err := keepOf(c.p, c.t); err != api.OK || !samePast(got, c.want) {
			t.Fatalf("the words of these tests say %s, %d of %s, %s", short(got), err, short(c.p), short(c.t))
		}
	}
}

func TestP16_1KeepErrors(t *testing.T) {
	p := twoNodes() // Its end is 3 2 5.
	full := kept(nil, run(0, 1, maxTxns)...)
	for _, c := range []struct {
		p    api.Past
		t    api.Txn
		want api.Errno
	}{
		// Not formed: alone; old as well; behind a gap as well; where the list is full.
		{api.Past{}, api.Txn{}, api.ErrForm},
		{api.Past{}, of(8, 1), api.ErrForm},
		{api.Past{}, of(-1, 1), api.ErrForm},
		{p, of(0, 4, 3, 2, 5, 0), api.ErrForm},
		{p, of(0, 4), api.ErrForm},
		{p, with(of(0, 4, 3), put(8, "a", "x")), api.ErrForm},
		{p, with(of(0, 4, 3), del(0, "a", dot(1, 1, 0))), api.ErrForm},
		{p, of(0, 3), api.ErrForm},
		{p, of(0, 1, 0), api.ErrForm},
		{p, with(of(0, 3, 2), put(8, "a", "x")), api.ErrForm},
		{p, with(of(1, 1), del(0, "a")), api.ErrForm},
		{p, of(0, 9, 1), api.ErrForm},
		{p, of(0, 4, 3, 9, 0), api.ErrForm},
		{p, of(0, 0), api.ErrForm},
		{kept(api.Vec{maxSeq}), of(0, maxSeq+1, maxSeq), api.ErrForm},
		{kept(api.Vec{0, 0, 0, 0, 0, 0, 0, 0, 1}), of(8, 2, 0, 0, 0, 0, 0, 0, 0, 0, 1), api.ErrForm},
		{full, api.Txn{}, api.ErrForm},
		{full, of(0, maxTxns+1), api.ErrForm},
		{full, of(0, 1, 0), api.ErrForm},
		{full, with(of(1, 1), put(8, "a", "x")), api.ErrForm},
		// Old: in the list, below the Floor, not ready as well, where the list is full.
		{three(), of(0, 3, 2), api.ErrOld},
		{three(), of(0, 1), api.ErrOld},
		{three(), with(of(0, 1), put(0, "a", "x")), api.ErrOld},
		{p, of(0, 1), api.ErrOld},
		{p, of(2, 4, 0, 0, 3), api.ErrOld},
		{p, of(2, 5, 3, 2, 4), api.ErrOld},
		{p, of(1, 2, 0, 1), api.ErrOld},
		{p, of(1, 2, 4, 1), api.ErrOld},
		{p, of(0, 1, 0, 0, 0, 0, 0, 0, 0, maxSeq), api.ErrOld},
		{kept(api.Vec{maxSeq}), of(0, maxSeq, maxSeq-1), api.ErrOld},
		{kept(nil, of(0, 3)), of(0, 1), api.ErrOld},
		{full, of(0, 1), api.ErrOld},
		{full, of(0, maxTxns, maxTxns-1), api.ErrOld},
		{full, of(0, maxTxns, maxTxns-1, 7), api.ErrOld},
		// A gap: one of its own node is missing, or its Deps are above the end, in one place alone.
		{api.Past{}, of(0, 2, 1), api.ErrGap},
		{three(), of(0, 5, 4), api.ErrGap},
		{three(), of(1, 2, 0, 1), api.ErrGap},
		{p, of(0, 4, 3, 3), api.ErrGap},
		{p, of(0, 4, 3, 2, 6), api.ErrGap},
		{p, of(0, 4, 3, 2, 5, 1), api.ErrGap},
		{p, of(1, 3, 4, 2), api.ErrGap},
		{p, of(3, 1, 4), api.ErrGap},
		{p, of(3, 1, 0, 0, 0, 0, 0, 0, 0, 1), api.ErrGap},
		{kept(api.Vec{-1}), of(0, 2, 1), api.ErrGap},
		{kept(api.Vec{9}, of(0, 1)), of(0, 10, 9), api.ErrGap},
		// What stands ahead in the Floor is gone where the list says less.
		{kept(api.Vec{9}, of(0, 1)), of(1, 1, 2), api.ErrGap},
		{full, of(0, maxTxns+2, maxTxns+1), api.ErrGap},
		{full, of(1, 2, 0, 1), api.ErrGap},
		{full, of(1, 1, maxTxns+1), api.ErrGap},
		// Full.
		{full, of(0, maxTxns+1, maxTxns), api.ErrFull},
		{full, of(1, 1), api.ErrFull},
		{full, with(of(7, 1, maxTxns), put(0, "a", "x", dot(0, 1, 0))), api.ErrFull},
	} {
		checkKeep(t, c.p, c.t, api.Past{}, c.want)
		if _, err := keepOf(c.p, c.t); err != c.want {
			t.Fatalf("the words of these tests say %d of %s, %s", err, short(c.p), short(c.t))
		}
	}
}

func TestP16_1KeepUntilItIsFull(t *testing.T) {
	for _, floor := range []api.Vec{nil, {7}, {0, 3}} {
		from := upTo(floor, 0)
		for _, n := range []int{0, 1, 2, maxTxns - 2, maxTxns - 1, maxTxns, maxTxns + 1, 2 * maxTxns} {
			l := run(0, from+1, from+n)
			checkSound(t, kept(floor, l...), true)
			checkEnd(t, kept(floor, l...), trimmed(from+n, upTo(floor, 1)))
			for _, x := range txns(of(0, from+n+1, trimmed(from+n)...), of(7, 1, trimmed(from+n)...), of(2, 1)) {
				if n < maxTxns {
					checkKeep(t, kept(floor, l...), x, kept(floor, append(l, x)...), api.OK)
					continue
				}
				checkKeep(t, kept(floor, l...), x, api.Past{}, api.ErrFull)
			}
			for _, x := range txns(of(0, from+n+2, from+n+1), of(7, 1, from+n+1)) {
				checkKeep(t, kept(floor, l...), x, api.Past{}, api.ErrGap)
			}
		}
	}
	// What is pruned makes room.
	full := kept(nil, run(0, 1, maxTxns)...)
	x := of(0, maxTxns+1, maxTxns)
	checkKeep(t, Prune(full, nil), x, api.Past{}, api.ErrFull)
	checkKeep(t, Prune(full, api.Vec{1}), x, kept(api.Vec{1}, run(0, 2, maxTxns+1)...), api.OK)
	checkKeep(t, Prune(full, api.Vec{maxTxns}), x, kept(api.Vec{maxTxns}, x), api.OK)
}

func TestP16_1KeepBySeq(t *testing.T) {
	for _, n := range ints() {
		for _, seq := range ints() {
			for node := range 8 {
				floor := append(make(api.Vec, node), n)
				x := of(node, seq, trimmed(append(make(api.Vec, node), seq-1)...)...)
				for _, ahead := range [][]api.Txn{nil, txns(of((node+1)%8, 1))} {
					p := kept(floor, ahead...)
					switch {
					case seq < 1 || seq > maxSeq:
						checkKeep(t, p, x, api.Past{}, api.ErrForm)
					case seq <= n:
						checkKeep(t, p, x, api.Past{}, api.ErrOld)
					case seq > max(n, 0)+1:
						checkKeep(t, p, x, api.Past{}, api.ErrGap)
					default:
						checkKeep(t, p, x, kept(floor, append(ahead, x)...), api.OK)
					}
				}
			}
		}
	}
}

func TestP16_1KeepByDeps(t *testing.T) {
	// One number of Deps alone lies above the end, or none does; the end is by the Floor, or by the list.
	for place := range 8 {
		for node := range 8 {
			for _, said := range []int{1, 2, 3} {
				var l []api.Txn
				for other := range 8 {
					l = append(l, run(other, 1, said)...)
				}
				for n := 0; n <= said+2; n++ {
					deps := slices.Repeat(api.Vec{said}, 8)
					deps[place] = n
					deps[node] = said
					x := of(node, said+1, trimmed(deps...)...)
					floor := slices.Repeat(api.Vec{said}, 8)
					if n > said && place != node {
						checkKeep(t, kept(floor), x, api.Past{}, api.ErrGap)
						checkKeep(t, kept(nil, l...), x, api.Past{}, api.ErrGap)
						continue
					}
					checkKeep(t, kept(floor), x, kept(floor, x), api.OK)
					checkKeep(t, kept(nil, l...), x, kept(nil, append(l, x)...), api.OK)
				}
			}
		}
	}
}

func TestP16_2TheExample(t *testing.T) {
	p := three()
	checkSound(t, p, true)
	checkEnd(t, p, api.Vec{3})
	checkSince(t, p, api.Vec{1}, txns(of(0, 2, 1), of(0, 3, 2)), api.OK)
	pruned := Prune(p, api.Vec{2})
	if want := kept(api.Vec{2}, of(0, 3, 2)); !samePast(pruned, want) {
		t.Fatalf("pruned to 2: %s; want %s", short(pruned), short(want))
	}
	checkSince(t, pruned, api.Vec{1}, nil, api.ErrPruned)
	checkSince(t, pruned, api.Vec{2}, txns(of(0, 3, 2)), api.OK)
	checkEnd(t, pruned, api.Vec{3})
}

func TestP16_2SinceKnown(t *testing.T) {
	p := twoNodes() // From 1 0 4 to 3 2 5.
	all := p.List
	for _, c := range []struct {
		p    api.Past
		v    api.Vec
		want []api.Txn
		err  api.Errno
	}{
		{api.Past{}, nil, nil, api.OK},
		{api.Past{}, api.Vec{5, -1, 0}, nil, api.OK},
		{three(), nil, three().List, api.OK},
		{three(), api.Vec{}, three().List, api.OK},
		{three(), api.Vec{-5}, three().List, api.OK},
		{three(), api.Vec{0, 9}, three().List, api.OK},
		{three(), api.Vec{2}, txns(of(0, 3, 2)), api.OK},
		{three(), api.Vec{3}, nil, api.OK},
		{three(), api.Vec{4}, nil, api.OK},
		{three(), api.Vec{math.MaxInt, 1}, nil, api.OK},
		// The Floor itself, and other forms of it.
		{p, api.Vec{1, 0, 4}, all, api.OK},
		{p, api.Vec{1, -7, 4, 0, -1}, all, api.OK},
		{p, api.Vec{1, 0, 4, 8, 8, 8, 8, 8, 8}, all, api.OK},
		{kept(api.Vec{1, 0, 0}, all...), api.Vec{1}, all, api.OK},
		{kept(api.Vec{1, -1}, all...), api.Vec{1}, all, api.OK},
		// Below it in one place alone, or shorter.
		{p, api.Vec{0, 0, 4}, nil, api.ErrPruned},
		{p, api.Vec{1, 0, 3}, nil, api.ErrPruned},
		{p, api.Vec{-1, 9, 9}, nil, api.ErrPruned},
		{p, api.Vec{9, 9, -1}, nil, api.ErrPruned},
		{p, api.Vec{9, 9}, nil, api.ErrPruned},
		{p, api.Vec{9, 9, 3, 9, 9, 9, 9, 9, 9}, nil, api.ErrPruned},
		{p, nil, nil, api.ErrPruned},
		{p, api.Vec{}, nil, api.ErrPruned},
		{kept(api.Vec{1}), nil, nil, api.ErrPruned},
		{kept(api.Vec{0, 0, 0, 0, 0, 0, 0, 0, 1}), api.Vec{1, 1, 1, 1, 1, 1, 1, 1}, nil, api.ErrPruned},
		{kept(api.Vec{0, 0, 0, 0, 0, 0, 0, 0, 1}, of(0, 1)), api.Vec{0, 0, 0, 0, 0, 0, 0, 0, 1}, txns(of(0, 1)), api.OK},
		// It has heard some: the first ones, those of one node, some from the middle on.
		{p, api.Vec{2, 0, 4}, all[1:], api.OK},
		{p, api.Vec{2, 1, 4}, all[2:], api.OK},
		{p, api.Vec{3, 1, 4}, all[3:], api.OK},
		{p, api.Vec{2, 2, 4}, txns(all[2], all[4]), api.OK},
		{p, api.Vec{1, 0, 5}, all[:4], api.OK},
		{p, api.Vec{1, 2, 5}, txns(all[0], all[2]), api.OK},
		{p, api.Vec{3, 0, 4}, txns(all[1], all[3], all[4]), api.OK},
		// All, and more.
		{p, api.Vec{3, 2, 5}, nil, api.OK},
		{p, api.Vec{3, 2, 5, 1}, nil, api.OK},
		{p, api.Vec{9, 9, 9, 9, 9, 9, 9, 9, 9}, nil, api.OK},
		{p, api.Vec{9, 1, 4}, all[3:], api.OK},
		// Lists that are no chain, or not formed: what no vector can have heard is told, each as often as it is there.
		{kept(nil, of(0, 3), of(0, 1), of(0, 3), of(0, 1)), api.Vec{1}, txns(of(0, 3), of(0, 3)), api.OK},
		{kept(nil, of(0, 3), of(0, 1), of(0, 3), of(0, 1)), api.Vec{2}, txns(of(0, 3), of(0, 3)), api.OK},
		{kept(nil, api.Txn{}, of(0, -1), of(-1, 1), of(8, 1), of(9, 1)), api.Vec{9, 9, 9, 9, 9, 9, 9, 9, 9}, txns(api.Txn{}, of(0, -1), of(-1, 1), of(9, 1)), api.OK},
		{kept(nil, of(0, maxSeq+1), of(1, maxSeq+1)), api.Vec{maxSeq, maxSeq + 1}, txns(of(0, maxSeq+1)), api.OK},
		{kept(nil, with(of(0, 1, -1, 0), put(9, "?", "x", dot(9, 9, 9)), del(-1, ""))), nil, txns(with(of(0, 1, -1, 0), put(9, "?", "x", dot(9, 9, 9)), del(-1, ""))), api.OK},
	} {
		checkSince(t, c.p, c.v, c.want, c.err)
		if got, err := sinceOf(c.p, c.v); err != c.err || !sameTxns(got, c.want) {
			t.Fatalf("the words of these tests say %s, %d of %s, %s", short(got), err, short(c.p), short(c.v))
		}
	}
}

func TestP16_2SinceByEachPlace(t *testing.T) {
	// A vector lies below the Floor in one place alone, or in none.
	for nodes := 1; nodes < 12; nodes++ {
		for _, said := range []int{1, 2, 100, maxSeq, math.MaxInt - 1} {
			floor := slices.Repeat(api.Vec{said}, nodes)
			p := kept(floor, of(0, 5), of(nodes, 1), of(nodes, 0))
			for place := range nodes {
				for _, n := range append(ints(), said-1, said, said+1) {
					v := slices.Repeat(api.Vec{said}, nodes)
					v[place] = n
					if n < said {
						checkSince(t, p, v, nil, api.ErrPruned)
						continue
					}
					checkSince(t, p, v, leftOf(p.List, v), api.OK)
				}
				if place < nodes-1 {
					checkSince(t, p, floor[:place+1], nil, api.ErrPruned)
				}
			}
			checkSince(t, p, append(floor, 1), leftOf(p.List, append(floor, 1)), api.OK)
		}
	}
}

func TestP16_2PruneKnown(t *testing.T) {
	p := twoNodes() // From 1 0 4 to 3 2 5.
	all := p.List
	for _, c := range []struct {
		p    api.Past
		to   api.Vec
		want api.Past
	}{
		{api.Past{}, nil, api.Past{}},
		{api.Past{}, api.Vec{5, 0, -1}, api.Past{}},
		{three(), api.Vec{1}, kept(api.Vec{1}, of(0, 2, 1), of(0, 3, 2))},
		{three(), api.Vec{2}, kept(api.Vec{2}, of(0, 3, 2))},
		{three(), api.Vec{3}, kept(api.Vec{3})},
		// To nothing, and to what lies below the Floor.
		{three(), nil, three()},
		{three(), api.Vec{0, 0}, three()},
		{three(), api.Vec{-2}, three()},
		{p, nil, p},
		{p, api.Vec{}, p},
		{p, api.Vec{1}, p},
		{p, api.Vec{0, 0, 4}, p},
		{p, api.Vec{1, 0, 4}, p},
		{p, api.Vec{1, -1, 3, 0, -1}, p},
		{p, api.Vec{0, 0, 5}, kept(api.Vec{1, 0, 5}, all[:4]...)},
		{p, api.Vec{2}, kept(api.Vec{2, 0, 4}, all[1:]...)},
		{p, api.Vec{2, 1}, kept(api.Vec{2, 1, 4}, all[2:]...)},
		{p, api.Vec{3, 2, 3}, kept(api.Vec{3, 2, 4}, all[4])},
		// To the end, and to what lies above it.
		{p, api.Vec{3, 2, 5}, kept(api.Vec{3, 2, 5})},
		{p, api.Vec{4, 2, 5}, kept(api.Vec{3, 2, 5})},
		{p, api.Vec{9, 9, 9, 9, 9, 9, 9, 9, 9, 9}, kept(api.Vec{3, 2, 5})},
		{p, api.Vec{math.MaxInt, 1, 0, math.MaxInt}, kept(api.Vec{3, 1, 4}, all[3:]...)},
		{p, api.Vec{0, 0, 0, 7}, p},
		{three(), api.Vec{7}, kept(api.Vec{3})},
		// To such as are not closed.
		{p, api.Vec{0, 2}, kept(api.Vec{1, 2, 4}, all[0], all[2], all[4])},
		{p, api.Vec{3}, kept(api.Vec{3, 0, 4}, all[1], all[3], all[4])},
		{p, api.Vec{1, 1, 5}, kept(api.Vec{1, 1, 5}, all[0], all[2], all[3])},
		// Pasts without a list.
		{kept(api.Vec{5, 0, 2}), api.Vec{9, 9, 9}, kept(api.Vec{5, 0, 2})},
		{kept(api.Vec{5, 0, 2}), nil, kept(api.Vec{5, 0, 2})},
		// Pasts that are not sound: Floors that aren't trimmed, or are long.
		{kept(api.Vec{0, -1, 0}), nil, api.Past{}},
		{kept(api.Vec{5, -3, 2, 0}), api.Vec{9, 9, 9, 9}, kept(api.Vec{5, 0, 2})},
		{kept(api.Vec{0, 0}, run(0, 1, 3)...), nil, three()},
		{kept(api.Vec{0, 0, 0, 0, 0, 0, 0, 0, 4, 0}, run(0, 1, 3)...), api.Vec{2, 0, 0, 0, 0, 0, 0, 0, 9}, kept(api.Vec{2, 0, 0, 0, 0, 0, 0, 0, 4}, of(0, 3, 2))},
		// The Floor has heard some of the list.
		{kept(api.Vec{2}, run(0, 1, 3)...), nil, kept(api.Vec{2}, of(0, 3, 2))},
		{kept(api.Vec{5}, run(0, 1, 3)...), api.Vec{1}, kept(api.Vec{5})},
		{kept(api.Vec{5}, run(0, 1, 3)...), api.Vec{9}, kept(api.Vec{5})},
		// Lists that are no chain.
		{kept(nil, of(0, 3), of(0, 1)), api.Vec{9}, kept(api.Vec{1}, of(0, 3))},
		{kept(nil, of(0, 1), of(0, 3), of(0, 1), of(0, 3)), api.Vec{2}, kept(api.Vec{2}, of(0, 3), of(0, 3))},
		{kept(api.Vec{1}, api.Txn{}, of(-1, 1), of(8, 1), of(0, -1)), api.Vec{9, 9, 9, 9, 9, 9, 9, 9, 9}, kept(api.Vec{1}, api.Txn{}, of(-1, 1), of(8, 1), of(0, -1))},
		{kept(nil, of(1, maxSeq+1), of(0, maxSeq)), api.Vec{math.MaxInt, math.MaxInt}, kept(api.Vec{maxSeq}, of(1, maxSeq+1))},
		{kept(nil, of(1, 2, 5, 5), with(of(0, 2), del(9, "?", dot(-1, 0, 0)))), api.Vec{1, 2}, kept(api.Vec{1, 2}, with(of(0, 2), del(9, "?", dot(-1, 0, 0))))},
	} {
		checkPrune(t, c.p, c.to, c.want)
		if got := pruneOf(c.p, c.to); !samePast(got, c.want) {
			t.Fatalf("the words of these tests say %s of %s, %s", short(got), short(c.p), short(c.to))
		}
		// Twice to the same; of an end that lies below the Floor no second time says more, either.
		checkPrune(t, c.want, c.to, pruneOf(c.want, c.to))
		if isSound(c.p) {
			checkPrune(t, c.want, c.to, c.want)
		}
	}
}

// few are transactions of three nodes, some not formed, some alike in name.
func few() []api.Txn {
	return txns(
		of(0, 1), with(of(0, 1), put(0, "a", "x")), of(0, 1, 0, 1), of(0, 2, 1), of(0, 2, 1, 1), of(1, 1), of(1, 1, 1), with(of(1, 2, 0, 1), del(0, "a", dot(1, 1, 0))), of(2, 1, 2, 1),
		of(0, 0), of(0, 2), of(8, 1),
	)
}

func TestP16_1AllShortPasts(t *testing.T) {
	sound := 0
	vectors := append(shortVectors(2, -1, 0, 1, 2), api.Vec{1, 1, 1}, api.Vec{2, 1, 0})
	for _, row := range rows(3, few()...) {
		for _, floor := range []api.Vec{nil, {1}, {0, 1}, {1, 0}, {2, 1}, {-1, 1}} {
			p := kept(floor, row...)
			checkWords(t, p, few(), nil)
			if isSound(p) {
				sound++
			}
			if len(row) < 3 {
				checkWords(t, p, nil, vectors)
			}
		}
	}
	if sound < 80 {
		t.Fatalf("only %d are sound", sound)
	}
}

func TestP16_2SomePasts(t *testing.T) {
	sound, keeps, told, pruned := 0, 0, 0, 0
	for seed := range uint32(10000) {
		p, l, vectors := odds(seed)
		checkWords(t, p, l, vectors)
		if isSound(p) {
			sound++
		}
		for _, x := range l {
			if _, err := keepOf(p, x); err == api.OK {
				keeps++
			}
		}
		for _, v := range vectors {
			if some, err := sinceOf(p, v); err == api.OK && len(some) > 0 && len(some) < len(p.List) {
				told++
			} else if err != api.OK {
				pruned++
			}
		}
	}
	if sound < 2000 || sound > 8000 || keeps < 5000 || told < 5000 || pruned < 5000 {
		t.Fatalf("%d pasts are sound; %d transactions are kept; %d vectors are told some, %d lie below the Floor", sound, keeps, told, pruned)
	}
}

func TestP16_2LongLists(t *testing.T) {
	// Lists and Floors that are long by themselves are not long together.
	const n = 1 << 16
	floor := slices.Repeat(api.Vec{1}, n)
	l := run(3, 2, n)
	end := slices.Clone(floor)
	end[3] = n
	p := kept(floor, l...)
	checkEnd(t, p, end)
	checkSound(t, kept(floor, run(3, 2, 100)...), true)
	checkSound(t, kept(append(floor, 0), l...), false)
	checkKeep(t, p, of(3, n+1, 0, 0, 0, n), api.Past{}, api.ErrFull)
	checkKeep(t, p, of(3, n, 0, 0, 0, n-1), api.Past{}, api.ErrOld)
	checkSince(t, p, end, nil, api.OK)
	checkSince(t, p, floor, l, api.OK)
	checkSince(t, p, floor[1:], nil, api.ErrPruned)
	checkPrune(t, p, end, kept(end))
	half := slices.Clone(floor)
	half[3] = n / 2
	checkPrune(t, p, half[:4], kept(half, run(3, n/2+1, n)...))
	checkPrune(t, p, nil, p)
}

func TestP16_2LongFloorsOfLongSoundPasts(t *testing.T) {
	const n = 1 << 16
	for _, floor := range []api.Vec{slices.Repeat(api.Vec{1}, n), {1, 1, 1, 1}} {
		l := run(3, 2, n)
		checkSound(t, kept(floor, l...), true)
		l[n/2].Deps = append(slices.Clone(l[n/2].Deps), 2)
		checkSound(t, kept(floor, l...), false)
	}
}

// isClosed tells whether each transaction of the list that v has heard has its Deps within v.
func isClosed(p api.Past, v api.Vec) bool {
	for _, x := range p.List {
		if isHeard(v, x) && !isWithin(x.Deps, v) {
			return false
		}
	}
	return true
}

// checkLaws holds what P16.3 promises of a sound past and a vector that is closed and has the Floor within it.
func checkLaws(t *testing.T, p api.Past, v api.Vec) {
	t.Helper()
	told, err := Since(p, v)
	if err != api.OK || !order.Chain(v, told) {
		t.Fatalf("Since(%s, %s) = %s, %d: no chain", short(p), short(v), short(told), err)
	}
	for _, x := range told {
		if !txn.Formed(x) {
			t.Fatalf("Since(%s, %s) = %s: not formed", short(p), short(v), short(told))
		}
	}
	behind := End(api.Past{Floor: v, List: told})
	if want := vec.Join(v, End(p)); !slices.Equal(behind, want) {
		t.Fatalf("behind Since(%s, %s) = %s it has heard %s; want %s", short(p), short(v), short(told), short(behind), short(want))
	}
	pruned := Prune(p, v)
	checkSound(t, pruned, true)
	checkEnd(t, pruned, End(p))
	checkPrune(t, pruned, v, pruned)
	checkSince(t, pruned, v, told, api.OK)
	if want := vec.Meet(v, End(p)); !slices.Equal(pruned.Floor, want) || !sameTxns(pruned.List, told) {
		t.Fatalf("Prune(%s, %s) = %s; want the Floor %s and %s", short(p), short(v), short(pruned), short(want), short(told))
	}
}

// checkTold tells whether each that is kept is told to whoever hasn't heard it, and to nobody else.
func checkTold(t *testing.T, p api.Past, v api.Vec) {
	t.Helper()
	told, err := Since(p, v)
	if within := isWithin(p.Floor, v); within != (err == api.OK) {
		t.Fatalf("Since(%s, %s) errs with %d; the Floor is within: %t", short(p), short(v), err, within)
	}
	if err != api.OK {
		return
	}
	for _, x := range p.List {
		is := slices.ContainsFunc(told, func(y api.Txn) bool { return same(x, y) })
		if is == isHeard(v, x) {
			t.Fatalf("Since(%s, %s): %s is told: %t", short(p), short(v), short(x), is)
		}
	}
	for _, x := range told {
		if !slices.ContainsFunc(p.List, func(y api.Txn) bool { return same(x, y) }) {
			t.Fatalf("Since(%s, %s) tells %s, which isn't kept", short(p), short(v), short(x))
		}
	}
}

func TestP16_3TheHistoriesAreSound(t *testing.T) {
	// These tests lean on it: they are sound, most of several nodes that hang on each other.
	long, hang := 0, 0
	for seed := range uint32(1000) {
		p := someSound(chance(seed))
		if !isSound(p) {
			t.Fatalf("%s isn't sound", short(p))
		}
		if len(p.List) > 5 {
			long++
		}
		for _, x := range p.List {
			for node, n := range x.Deps {
				if node != x.Node && n > upTo(p.Floor, node) {
					hang++
				}
			}
		}
	}
	if long < 500 || hang < 3000 {
		t.Fatalf("only %d are long, %d numbers hang on other nodes", long, hang)
	}
}

func TestP16_3OfAllVectorsOfShortPasts(t *testing.T) {
	closed, open := 0, 0
	pasts := []api.Past{{}, three(), twoNodes(), kept(api.Vec{1, 2, 3})}
	for seed := range uint32(60) {
		next := chance(seed)
		pasts = append(pasts, kept(nil, history(nil, 3, next(8), next)...))
	}
	for _, p := range pasts {
		for _, v := range shortVectors(3, 0, 1, 2, 3, 4, 5) {
			checkTold(t, p, v)
			if !isWithin(p.Floor, v) {
				continue
			}
			if !isClosed(p, v) {
				open++
				continue
			}
			closed++
			checkLaws(t, p, v)
		}
	}
	if closed < 5000 || open < 1000 {
		t.Fatalf("%d vectors are closed, %d are not", closed, open)
	}
}

func TestP16_3OfWhoeverHeardABeginning(t *testing.T) {
	// Who heard beginnings of the list, and what another one knows besides, is closed.
	for seed := range uint32(1500) {
		next := chance(seed)
		p := someSound(next)
		for cut := range len(p.List) + 1 {
			v := endOf(kept(p.Floor, p.List[:cut]...))
			if !isClosed(p, v) {
				t.Fatalf("%s isn't closed of %s", short(v), short(p))
			}
			checkLaws(t, p, v)
			checkTold(t, p, v)
			checkSince(t, p, v, p.List[cut:], api.OK)
			checkPrune(t, p, v, kept(v, p.List[cut:]...))
			// Of a node of which nothing is kept it may have heard more.
			for node := range 10 {
				ofNode := func(x api.Txn) bool { return x.Node == node }
				if !slices.ContainsFunc(p.List, ofNode) {
					more := slices.Concat(v, make(api.Vec, 10))
					more[node] += 3
					checkLaws(t, p, more)
					checkTold(t, p, more)
				}
			}
		}
		// And of a node of which all was heard, too.
		more := slices.Concat(endOf(p), make(api.Vec, 10))
		more[next(10)] += next(5)
		checkLaws(t, p, more)
	}
}

func TestP16_3OfWhoeverHeardSome(t *testing.T) {
	// Any vector made closed by all that those of the list hang on.
	some := 0
	for seed := range uint32(4000) {
		next := chance(seed)
		p := someSound(next)
		v := vec.Join(p.Floor, somewhere(p, next))
		for i := len(p.List) - 1; i >= 0; i-- {
			if isHeard(v, p.List[i]) {
				v = vec.Join(v, p.List[i].Deps)
			}
		}
		checkLaws(t, p, v)
		checkTold(t, p, v)
		if n := len(leftOf(p.List, v)); n > 0 && n < len(p.List) {
			some++
		}
	}
	if some < 1000 {
		t.Fatalf("only %d have heard some of the list", some)
	}
}

func TestP16_3KeptOneBehindTheOther(t *testing.T) {
	// What is kept from nothing on, and pruned now and then, stays sound, and whoever is not below the Floor is told all.
	for seed := range uint32(300) {
		next := chance(seed)
		l := history(nil, 1+next(8), 30, next)
		var p api.Past
		var v api.Vec // One who follows, and is at times behind.
		for _, x := range l {
			behind, err := Keep(p, x)
			if err != api.OK {
				t.Fatalf("Keep(%s, %s) errs with %d", short(p), short(x), err)
			}
			checkSound(t, behind, true)
			checkEnd(t, behind, nextOf(endOf(p), x))
			checkKeep(t, behind, x, api.Past{}, api.ErrOld)
			checkSince(t, behind, endOf(p), txns(x), api.OK)
			checkPrune(t, behind, endOf(p), kept(endOf(p), x))
			p = behind
			switch next(5) {
			case 0:
				told, err := Since(p, v)
				if err != api.OK || !order.Chain(v, told) {
					t.Fatalf("Since(%s, %s) = %s, %d", short(p), short(v), short(told), err)
				}
				v = endOf(kept(v, told...))
				if !slices.Equal(v, endOf(p)) {
					t.Fatalf("behind Since of %s it has heard %s", short(p), short(v))
				}
			case 1:
				end := endOf(p)
				p = Prune(p, v)
				checkSound(t, p, true)
				checkEnd(t, p, end)
			}
		}
	}
}

// spare is a list that has more behind it as its spare room.
func spare[T any](l []T, more ...T) []T { return slices.Concat(l, more)[:len(l)] }

// spareTxns is a list of transactions, with more behind each of the lists in it as spare room.
func spareTxns(l []api.Txn) []api.Txn {
	laid := spare(l, of(0, 1), with(of(1, 1), put(0, "s", "s")))
	for i, x := range laid {
		laid[i].Deps = spare(x.Deps, 5, 6, 7)
		laid[i].Effs = spare(x.Effs, put(7, "s", "s"), put(0, "s", "s"))
		for j, e := range laid[i].Effs {
			laid[i].Effs[j].Drops = spare(e.Drops, dot(5, 5, 5), api.Dot{})
		}
	}
	return laid
}

// sparePast is a past with more behind its lists as spare room.
func sparePast(p api.Past) api.Past {
	return api.Past{Floor: spare(p.Floor, 9, -1, 9), List: spareTxns(p.List)}
}

// whole is a copy of a list, its spare room as a part of it; deep and deepPast are such copies with all lists in it.
func whole[T any](l []T) []T { return slices.Clone(l[:cap(l)]) }

func deep(l []api.Txn) []api.Txn {
	l = whole(l)
	for i, x := range l {
		l[i].Deps, l[i].Effs = whole(x.Deps), whole(x.Effs)
		for j, e := range l[i].Effs {
			l[i].Effs[j].Drops = whole(e.Drops)
		}
	}
	return l
}

func deepPast(p api.Past) api.Past {
	return api.Past{Floor: whole(p.Floor), List: deep(p.List)}
}

// turn, turnTxns and turnPast change all of a list, spare room and all.
func turn[T any](l []T, to T) {
	l = l[:cap(l)]
	for i := range l {
		l[i] = to
	}
}

func turnTxns(l []api.Txn) {
	for _, x := range l[:cap(l)] {
		turn(x.Deps, 77)
		for _, e := range x.Effs[:cap(x.Effs)] {
			turn(e.Drops, dot(9, 9, 9))
		}
		turn(x.Effs, api.Eff{Key: "turned"})
	}
	turn(l, of(77, 77))
}

func turnPast(p api.Past) {
	turn(p.Floor, 77)
	turnTxns(p.List)
}

// handed is what calls are handed, with spare room.
type handed struct {
	p api.Past
	l []api.Txn
	v api.Vec
}

// hand is these with more behind each list as spare room.
func hand(p api.Past, x api.Txn, v api.Vec) handed {
	return handed{sparePast(p), spareTxns(txns(x)), spare(v, 9, 0, -9)}
}

// turn changes all of it.
func (h handed) turn() {
	turnPast(h.p)
	turnTxns(h.l)
	turn(h.v, 44)
}

// checkApart turns an answer, and tells whether that, or the call, changed what was handed in.
func (h handed) checkApart(t *testing.T, what string, turnAnswer func()) {
	t.Helper()
	p, l, v := deepPast(h.p), deep(h.l), whole(h.v)
	turnAnswer()
	if !samePast(deepPast(h.p), p) || !sameTxns(deep(h.l), l) || !slices.Equal(whole(h.v), v) {
		t.Fatalf("%s of %s, %s, %s: what was handed in, or its spare room, was changed, or is shared", what, short(p), short(l), short(v))
	}
}

func TestP16_1NothingIsChangedOrShared(t *testing.T) {
	for seed := range uint32(1000) {
		said, list, _ := odds(seed)
		for _, x := range list {
			h := hand(said, x, nil)
			h.checkApart(t, "Sound", func() { checkSound(t, h.p, isSound(said)) })
			h.checkApart(t, "End", func() { turn(End(h.p), 55) })
			h.checkApart(t, "Keep", func() {
				one, _ := Keep(h.p, h.l[0])
				turnPast(one)
			})
			end := End(h.p)
			two, err := Keep(h.p, h.l[0])
			h.turn()
			want, wantErr := keepOf(said, x)
			if !samePast(two, want) || err != wantErr || !slices.Equal(end, endOf(said)) {
				t.Fatalf("End or Keep(%s, %s) shares: %s; %s, %d; want %s; %s, %d", short(said), short(x), short(end), short(two), err, short(endOf(said)), short(want), wantErr)
			}
		}
	}
}

func TestP16_2NothingIsChangedOrShared(t *testing.T) {
	for seed := range uint32(1000) {
		said, _, vectors := odds(seed)
		for _, v := range vectors {
			h := hand(said, api.Txn{}, v)
			h.checkApart(t, "Since", func() {
				one, _ := Since(h.p, h.v)
				turnTxns(one)
			})
			h.checkApart(t, "Prune", func() { turnPast(Prune(h.p, h.v)) })
			told, err := Since(h.p, h.v)
			pruned := Prune(h.p, h.v)
			h.turn()
			if want, wantErr := sinceOf(said, v); !sameTxns(told, want) || err != wantErr {
				t.Fatalf("Since(%s, %s) shares: %s, %d; want %s, %d", short(said), short(v), short(told), err, short(want), wantErr)
			}
			if want := pruneOf(said, v); !samePast(pruned, want) {
				t.Fatalf("Prune(%s, %s) shares: %s; want %s", short(said), short(v), short(pruned), short(want))
			}
		}
	}
}

func TestP16_2ListsOfOneAnswerAreApart(t *testing.T) {
	// All share one Floor, one Deps, one list of effects and one of Drops.
	floor := api.Vec{1, 0, 0, 0}[:1]
	drops := []api.Dot{dot(0, 1, 0), dot(0, 1, 3)}
	effs := []api.Eff{put(0, "a", "x", drops...), put(1, "b", "y", drops...)}
	l := txns(api.Txn{Node: 1, Seq: 1, Deps: floor, Effs: effs}, api.Txn{Node: 2, Seq: 1, Deps: floor, Effs: effs[:1]}, api.Txn{Node: 3, Seq: 1, Deps: floor, Effs: effs})
	p := kept(floor, l[:2]...)
	answers := []func() api.Past{
		func() api.Past { one, _ := Keep(p, l[2]); return one },
		func() api.Past { told, _ := Since(kept(floor, l...), floor); return kept(slices.Clone(floor), told...) },
		func() api.Past { return Prune(kept(floor, l...), floor) },
	}
	for which, answer := range answers {
		for i := range l {
			one := answer()
			turnTxns(one.List[i : i+1 : i+1])
			for j := range l {
				if j != i && !same(one.List[j], l[j]) {
					t.Fatalf("lists of answer %d share: when %d is turned, %d is %s", which, i, j, short(one.List[j]))
				}
			}
			if !slices.Equal(one.Floor, api.Vec{1}) {
				t.Fatalf("the Floor of answer %d shares: when %d is turned, it is %s", which, i, short(one.Floor))
			}
		}
		one := answer()
		turn(one.Floor, 77)
		if !sameTxns(one.List, l) {
			t.Fatalf("the Floor of answer %d shares with its list: %s", which, short(one.List))
		}
	}
}

func TestP16_2SameEachTime(t *testing.T) {
	for seed := range uint32(200) {
		p, l, vectors := odds(seed)
		for range 5 {
			checkWords(t, p, l, vectors)
		}
	}
}
