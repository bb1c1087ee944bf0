package store

import (
	"fmt"
	"math"
	"slices"
	"strings"
	"testing"

	"buttery/api"
	"buttery/eff"
	"buttery/item"
	"buttery/txn"
)

const maxSeq = 1 << 30

// ints are values of a vector's numbers, and of a transaction's: such as may be, and such as may not.
func ints() []int {
	return []int{
		math.MinInt, math.MinInt + 1, -1 << 40, -1<<32 + 1, -8, -2, -1, 0, 1, 2, 3, 7, 8, 9, 127, 128,
		maxSeq - 2, maxSeq - 1, maxSeq, maxSeq + 1, maxSeq + 2, 1 << 31, 1 << 32, 1<<32 + 1, math.MaxInt - 1, math.MaxInt,
	}
}

// dot is the dot of those parts.
func dot(node, seq, at int) api.Dot { return api.Dot{Node: node, Seq: seq, At: at} }

// reg and count are items of that kind under the key.
func reg(key, e string, d api.Dot) api.Item {
	return api.Item{Key: key, Kind: api.Reg, Elem: e, Dot: d}
}

func count(key string, n int64, d api.Dot) api.Item {
	return api.Item{Key: key, Kind: api.Count, N: n, Dot: d}
}

// put, inc and del are effects that make a register's value, a count and nothing.
func put(at int, key, e string, drops ...api.Dot) api.Eff {
	return api.Eff{At: at, Key: key, Kind: api.Reg, Elem: e, Drops: drops}
}

func inc(at int, key string, n int64, drops ...api.Dot) api.Eff {
	return api.Eff{At: at, Key: key, Kind: api.Count, N: n, Drops: drops}
}

func del(at int, key string, drops ...api.Dot) api.Eff {
	return api.Eff{At: at, Key: key, Drops: drops}
}

// of is a transaction of these parts.
func of(node, seq int, deps api.Vec, effs ...api.Eff) api.Txn {
	return api.Txn{Node: node, Seq: seq, Deps: deps, Effs: effs}
}

// txns are a list of these.
func txns(l ...api.Txn) []api.Txn { return l }

// stored is a store of these parts.
func stored(heard api.Vec, items ...api.Item) api.Store {
	return api.Store{Heard: heard, Items: items}
}

// upTo is what a vector says of a node.
func upTo(v api.Vec, node int) int {
	if 0 <= node && node < len(v) && v[node] > 0 {
		return v[node]
	}
	return 0
}

// isSound is what the document says of a store that is sound.
func isSound(s api.Store) bool {
	for node, n := range s.Heard {
		if node > 7 || n < 0 || n > 1073741824 || n == 0 && node == len(s.Heard)-1 {
			return false
		}
	}
	seen := map[api.Dot]bool{}
	for i, x := range s.Items {
		if !item.Formed(x) || x.Dot.Seq > upTo(s.Heard, x.Dot.Node) || seen[x.Dot] || i > 0 && item.Less(x, s.Items[i-1]) {
			return false
		}
		seen[x.Dot] = true
	}
	return true
}

// trimmed is the vector of these numbers without the zeros at its end.
func trimmed(v ...int) api.Vec {
	for len(v) > 0 && v[len(v)-1] == 0 {
		v = v[:len(v)-1]
	}
	return v
}

// behindOf is the vector behind a transaction that is formed and ready.
func behindOf(v api.Vec, t api.Txn) api.Vec {
	var next api.Vec
	for node := range max(len(v), t.Node+1) {
		next = append(next, upTo(v, node))
	}
	next[t.Node] = t.Seq
	return trimmed(next...)
}

// effsOf is what effects make of items, effect by effect, to the letter.
func effsOf(items []api.Item, t api.Txn) []api.Item {
	items = slices.Clone(items)
	for _, e := range t.Effs {
		items = slices.DeleteFunc(items, func(x api.Item) bool { return slices.Contains(e.Drops, x.Dot) })
		if e.Kind != 0 {
			items = append(items, api.Item{Key: e.Key, Field: e.Field, Kind: e.Kind, Elem: e.Elem, N: e.N, Dot: dot(t.Node, t.Seq, e.At)})
		}
		items = item.Norm(items)
	}
	return items
}

// doOf is what the document says of Do.
func doOf(s api.Store, t api.Txn) (api.Store, api.Errno) {
	if !txn.Formed(t) {
		return api.Store{}, api.ErrForm
	}
	if t.Seq <= upTo(s.Heard, t.Node) {
		return api.Store{}, api.ErrOld
	}
	if t.Seq > upTo(s.Heard, t.Node)+1 {
		return api.Store{}, api.ErrGap
	}
	for node, n := range t.Deps {
		if n > upTo(s.Heard, node) {
			return api.Store{}, api.ErrGap
		}
	}
	return api.Store{Heard: behindOf(s.Heard, t), Items: effsOf(s.Items, t)}, api.OK
}

// allOf is what it says of All, to the letter; and those that are left.
func allOf(s api.Store, l []api.Txn) (end api.Store, done, left []api.Txn) {
	left = slices.Clone(l)
	for {
		place := slices.IndexFunc(left, func(t api.Txn) bool {
			_, err := doOf(s, t)
			return err == api.OK
		})
		if place < 0 {
			return s, done, left
		}
		s, _ = doOf(s, left[place])
		done = append(done, left[place])
		left = slices.Delete(left, place, place+1)
	}
}

// underOf is what it says of Under.
func underOf(s api.Store, z []string) api.Store {
	under := api.Store{Heard: s.Heard}
	for _, x := range s.Items {
		if slices.ContainsFunc(z, func(p string) bool { return strings.HasPrefix(x.Key, p) }) {
			under.Items = append(under.Items, x)
		}
	}
	return under
}

// sameStore, same and sameTxns tell whether two are the same, lists that are nil like empty ones.
func sameStore(a, b api.Store) bool {
	return slices.Equal(a.Heard, b.Heard) && slices.Equal(a.Items, b.Items)
}

func same(a, b api.Txn) bool {
	sameEff := func(a, b api.Eff) bool {
		return a.At == b.At && a.Key == b.Key && a.Field == b.Field && a.Kind == b.Kind && a.Elem == b.Elem && a.N == b.N && slices.Equal(a.Drops, b.Drops)
	}
	return a.Node == b.Node && a.Seq == b.Seq && slices.Equal(a.Deps, b.Deps) && slices.EqualFunc(a.Effs, b.Effs, sameEff)
}

func sameTxns(a, b []api.Txn) bool { return slices.EqualFunc(a, b, same) }

// short tells a value, no longer than one can read.
func short(v any) string {
	s := fmt.Sprintf("%+v", v)
	if len(s) > 1500 {
		return s[:1500] + ".."
	}
	return s
}

func checkSound(t *testing.T, s api.Store, want bool) {
	t.Helper()
	if got := Sound(s); got != want {
		t.Fatalf("Sound(%s) = %t; want %t", short(s), got, want)
	}
}

func checkDo(t *testing.T, s api.Store, x api.Txn, want api.Store, wantErr api.Errno) {
	t.Helper()
	if got, err := Do(s, x); err != wantErr || !sameStore(got, want) {
		t.Fatalf("Do(%s, %s) = %s, %d; want %s, %d", short(s), short(x), short(got), err, short(want), wantErr)
	}
}

func checkAll(t *testing.T, s api.Store, l []api.Txn, want api.Store, wantDone []api.Txn) {
	t.Helper()
	got, done := All(s, l)
	if !sameStore(got, want) || !sameTxns(done, wantDone) {
		t.Fatalf("All(%s, %s) = %s, %s; want %s, %s", short(s), short(l), short(got), short(done), short(want), short(wantDone))
	}
}

func checkUnder(t *testing.T, s api.Store, z []string, want api.Store) {
	t.Helper()
	if got := Under(s, z); !sameStore(got, want) {
		t.Fatalf("Under(%s, %q) = %s; want %s", short(s), short(z), short(got), short(want))
	}
}

// checkWords holds all calls against what the document says, and tells how many of l are done.
func checkWords(t *testing.T, s api.Store, l []api.Txn) int {
	t.Helper()
	checkSound(t, s, isSound(s))
	for _, x := range l {
		want, err := doOf(s, x)
		checkDo(t, s, x, want, err)
	}
	end, done, _ := allOf(s, l)
	checkAll(t, s, l, end, done)
	for _, z := range zones() {
		checkUnder(t, s, z, underOf(s, z))
	}
	return len(done)
}

// zones are such as are in their one form, and such as are not.
func zones() [][]string {
	return [][]string{
		nil, {}, {""}, {"a"}, {"b"}, {"a/"}, {"a/b"}, {"a", "b"}, {"a/", "b"}, {"c"}, {"zz"}, {"a", "a/b"}, {"b", "a/b", "b"}, {"", "a"}, {"A"}, {"?", "b"}, {strings.Repeat("a", 40)},
	}
}

// rows are all lists of at most so many of these.
func rows[T any](most int, of ...T) [][]T {
	l := [][]T{nil}
	for from := 0; most > 0; most-- {
		end := len(l)
		for _, row := range l[from:end] {
			for _, x := range of {
				l = append(l, append(slices.Clone(row), x))
			}
		}
		from = end
	}
	return l
}

// orders are all orders of a list.
func orders[T any](l []T) [][]T {
	if len(l) == 0 {
		return [][]T{nil}
	}
	var all [][]T
	for _, order := range orders(l[1:]) {
		for place := range len(l) {
			all = append(all, slices.Insert(slices.Clone(order), place, l[0]))
		}
	}
	return all
}

// chance answers numbers below what it is asked, always the same ones for a seed.
func chance(seed uint32) func(below int) int {
	state := seed*2654435761 + 12345
	return func(below int) int {
		state = state*1664525 + 1013904223
		return int(state >> 8 % uint32(below))
	}
}

// mixed is a list in some other order.
func mixed[T any](l []T, next func(int) int) []T {
	l = slices.Clone(l)
	for i := range l {
		j := i + next(len(l)-i)
		l[i], l[j] = l[j], l[i]
	}
	return l
}

// oneOf is some one of these.
func oneOf[T any](next func(int) int, l ...T) T { return l[next(len(l))] }

// history is what these many nodes make, n transactions one behind the other, that hang on what their nodes had heard by then; with no two of one Node and Seq. Where own holds, each effect takes away what stands under its own key alone.
func history(nodes, n int, own bool, next func(int) int) []api.Txn {
	stores := make([]api.Store, nodes)
	var l []api.Txn
	for range n {
		node := next(nodes)
		stores[node], _, _ = allOf(stores[node], l[:next(next(len(l)+1)+1)])
		x := update(stores[node], node, own, next)
		stores[node], _ = doOf(stores[node], x)
		l = append(l, x)
	}
	return l
}

// update is a transaction of node, which holds s.
func update(s api.Store, node int, own bool, next func(int) int) api.Txn {
	x := of(node, upTo(s.Heard, node)+1, slices.Clone(s.Heard))
	for at := range 8 {
		if next(3) > 0 {
			continue
		}
		e := api.Eff{At: at, Key: oneOf(next, "a", "a/b", "a/c", "b", "c"), Field: oneOf(next, "", "f"), Kind: next(4)}
		switch e.Kind {
		case api.Elem, api.Reg:
			e.Elem = oneOf(next, "", "x", "y")
		case api.Count:
			e.N = int64(next(9) - 4)
		}
		e.Drops = someDrops(api.Store{Heard: s.Heard, Items: effsOf(s.Items, x)}, e.Key, own, next)
		if e.Kind != 0 || len(e.Drops) > 0 {
			x.Effs = append(x.Effs, e)
		}
	}
	return x
}

// someDrops are dots of what stands in s, and some that were heard, of which nothing stands there.
func someDrops(s api.Store, key string, own bool, next func(int) int) []api.Dot {
	away := map[api.Dot]bool{}
	for range next(3) {
		if node := next(8); upTo(s.Heard, node) > 0 {
			away[dot(node, 1+next(s.Heard[node]), next(8))] = true
		}
	}
	for _, x := range s.Items {
		away[x.Dot] = (!own || x.Key == key) && next(3) == 0
	}
	var l []api.Dot
	for d, goes := range away {
		if goes {
			l = append(l, d)
		}
	}
	slices.SortFunc(l, func(a, b api.Dot) int {
		return slices.Compare([]int{a.Node, a.Seq, a.At}, []int{b.Node, b.Seq, b.At})
	})
	return l[:min(len(l), 64)]
}

// unformed is x with something wrong.
func unformed(x api.Txn, next func(int) int) api.Txn {
	x.Deps, x.Effs = slices.Clone(x.Deps), slices.Clone(x.Effs)
	switch next(7) {
	case 0:
		x.Node = oneOf(next, -1, 8, math.MinInt)
	case 1:
		x.Seq = oneOf(next, 0, -1, maxSeq+1)
	case 2:
		x.Deps = append(x.Deps, 0)
	case 3:
		x.Deps = append(make(api.Vec, 8), 1)
	case 4:
		x.Effs = append(x.Effs, put(8, "a", "x"))
	case 5:
		x.Effs = append([]api.Eff{put(-1, "a", "x")}, x.Effs...)
	case 6:
		x.Effs = []api.Eff{del(0, "a", dot(x.Node, x.Seq, 0))}
	}
	return x
}

// unlike is another transaction of the same Node and Seq.
func unlike(x api.Txn, next func(int) int) api.Txn {
	return oneOf(next,
		of(x.Node, x.Seq, x.Deps),
		of(x.Node, x.Seq, x.Deps, put(next(8), "b", "unlike")),
		of(x.Node, x.Seq, slices.Concat(make(api.Vec, x.Node), api.Vec{x.Seq - 1}), inc(2, "c", 7)),
		of(x.Node, x.Seq, slices.Concat(x.Deps, make(api.Vec, 7-min(len(x.Deps), 7)), api.Vec{1})[:8], put(0, "b", "ahead")),
	)
}

// unsound is s with something wrong, or not.
func unsound(s api.Store, next func(int) int) api.Store {
	s = api.Store{Heard: slices.Clone(s.Heard), Items: slices.Clone(s.Items)}
	switch next(9) {
	case 0:
		s.Heard = append(s.Heard, 0)
	case 1:
		s.Heard = append(s.Heard, oneOf(next, -1, math.MinInt), 0)
	case 2:
		s.Heard = append(s.Heard, 0, 0, 0, 0, 0, 0, 0, 0, oneOf(next, 3, -3))
	case 3:
		s.Items = mixed(s.Items, next)
	case 4:
		s.Items = append(s.Items, s.Items...)
	case 5:
		for range 4 {
			s.Items = append(s.Items, reg("a", "unheard", dot(next(4), upTo(s.Heard, next(4))+1, next(8))))
		}
	case 6:
		for _, x := range slices.Clone(s.Items) {
			s.Items = append(s.Items, reg(oneOf(next, "a", "c"), "twice", x.Dot))
		}
	case 7:
		s.Items = append(s.Items, api.Item{Key: "?", Kind: 9}, api.Item{Key: "b", Dot: dot(-1, -1, -1)}, api.Item{})
	}
	return s
}

// odds are a store, sound or not, and some transactions: formed or not, some of them twice, mixed.
func odds(seed uint32) (api.Store, []api.Txn) {
	next := chance(seed)
	l := history(1+next(5), next(16), false, next)
	known := next(len(l) + 1)
	s, _, _ := allOf(api.Store{}, l[:known])
	if len(l) > 0 {
		l = l[next(known+1):]
	}
	for i := range l {
		switch next(14) {
		case 0:
			l = append(l, l[i])
		case 1:
			l = append(l, unlike(l[i], next))
		case 2:
			l = append(l, unformed(l[i], next))
		case 3:
			l[i] = unformed(l[i], next)
		}
	}
	return unsound(s, next), mixed(l, next)
}

func TestP15_1SoundKnown(t *testing.T) {
	x, y := reg("a", "x", dot(0, 1, 0)), reg("a", "y", dot(1, 2, 7))
	sum := count("a", 5, dot(0, 3, 1))
	for _, c := range []struct {
		s    api.Store
		want bool
	}{
		{api.Store{}, true},
		{api.Store{Heard: api.Vec{}, Items: []api.Item{}}, true},
		{stored(api.Vec{1}), true},
		{stored(api.Vec{1}, x), true},
		{stored(api.Vec{0, 2}, y), true},
		{stored(api.Vec{3, 2}, x, y, sum), true},
		{stored(api.Vec{maxSeq, 0, 0, 0, 0, 0, 0, maxSeq}, x, reg("a", "y", dot(7, maxSeq, 7))), true},
		// What was heard: not trimmed, below 0, above MaxSeq, too long.
		{stored(api.Vec{0}), false},
		{stored(api.Vec{1, 0}, x), false},
		{stored(api.Vec{1, -1}, x), false},
		{stored(api.Vec{-1, 2}, y), false},
		{stored(api.Vec{-1}), false},
		{stored(api.Vec{maxSeq}, x), true},
		{stored(api.Vec{maxSeq + 1}, x), false},
		{stored(api.Vec{1, maxSeq + 1}, x), false},
		{stored(api.Vec{1, 1, 1, 1, 1, 1, 1, 1}, x), true},
		{stored(api.Vec{1, 1, 1, 1, 1, 1, 1, 1, 1}, x), false},
		{stored(api.Vec{1, 1, 1, 1, 1, 1, 1, 1, 0}, x), false},
		// Items: out of order, one twice, two with one Dot.
		{stored(api.Vec{3, 2}, y, x, sum), false},
		{stored(api.Vec{3, 2}, sum, x, y), false},
		{stored(api.Vec{3, 2}, x, x), false},
		{stored(api.Vec{3, 2}, x, reg("b", "x", x.Dot)), false},
		{stored(api.Vec{3, 2}, x, reg("a", "y", x.Dot)), false},
		{stored(api.Vec{3, 2}, x, y, reg("c", "", dot(0, 1, 0))), false},
		{stored(api.Vec{3, 2}, x, y, reg("c", "", dot(0, 1, 1))), true},
		// One is not formed, one was not heard.
		{stored(api.Vec{3, 2}, reg("", "x", x.Dot)), false},
		{stored(api.Vec{3, 2}, x, reg("{", "x", y.Dot)), false},
		{stored(api.Vec{3, 2}, x, y, count("b", 1, dot(0, 1, 8))), false},
		{stored(api.Vec{3, 2}, x, y, api.Item{Key: "b", Dot: dot(0, 1, 7)}), false},
		{stored(api.Vec{3, 2}, x, y, count("b", 1, dot(0, 0, 1))), false},
		{stored(nil, x), false},
		{stored(api.Vec{0, 2}, x), false},
		{stored(api.Vec{1, 1}, x, y), false},
		{stored(api.Vec{1}, x, y), false},
		{stored(api.Vec{2, 2}, x, y, sum), false},
		{stored(api.Vec{maxSeq}, reg("a", "y", dot(0, maxSeq+1, 0))), false},
		{stored(api.Vec{1, 1, 1, 1, 1, 1, 1, 1}, reg("a", "y", dot(8, 1, 0))), false},
		{stored(api.Vec{1, 1, 1, 1, 1, 1, 1, 1}, reg("a", "y", dot(-1, 1, 0))), false},
	} {
		checkSound(t, c.s, c.want)
		if isSound(c.s) != c.want {
			t.Fatalf("the words of these tests say %t of %s", !c.want, short(c.s))
		}
	}
}

func TestP15_1SoundByWhatWasHeard(t *testing.T) {
	for _, n := range ints() {
		for nodes := 1; nodes < 12; nodes++ {
			for place := range nodes {
				v := slices.Repeat(api.Vec{5}, nodes)
				v[place] = n
				last := place == nodes-1
				fits := nodes <= 8 && n >= 0 && n <= maxSeq && (n > 0 || !last)
				checkSound(t, stored(v), fits)
				// An item of this node, and of another one.
				x := reg("a", "x", dot(place, 3, 0))
				checkSound(t, stored(v, x), fits && n >= 3)
				x.Dot.Node = (place + 1) % nodes
				checkSound(t, stored(v, x), fits && (nodes > 1 || n >= 3))
			}
		}
	}
	checkSound(t, stored(make(api.Vec, 1<<20)), false)
	checkSound(t, stored(slices.Repeat(api.Vec{1}, 1<<20)), false)
}

func TestP15_1SoundByEachItem(t *testing.T) {
	parts := slices.Concat(ints(), []int{4, 5, 6})
	v := api.Vec{3, 0, 9, maxSeq, 1, 1, 1, 128}
	for _, node := range parts {
		for _, seq := range parts {
			for _, at := range []int{-1, 0, 1, 7, 8} {
				x := reg("b", "x", dot(node, seq, at))
				fits := node >= 0 && node <= 7 && seq >= 1 && seq <= upTo(v, node) && at >= 0 && at <= 7
				checkSound(t, stored(v, x), fits)
				apart := x.Dot != dot(2, 9, 5) && x.Dot != dot(2, 9, 6)
				checkSound(t, stored(v, reg("a", "x", dot(2, 9, 5)), x, reg("c", "x", dot(2, 9, 6))), fits && apart)
			}
		}
	}
}

func TestP15_1SoundOfShortLists(t *testing.T) {
	few := []api.Item{
		reg("a", "x", dot(0, 1, 0)), reg("a", "y", dot(0, 1, 0)), reg("a", "x", dot(1, 1, 0)), reg("b", "x", dot(0, 2, 0)), count("a", 5, dot(0, 2, 1)),
		count("a", 4, dot(0, 2, 1)), {Key: "a", Field: "f", Kind: api.Elem, Dot: dot(0, 1, 7)}, {Key: "a", Field: "f", Kind: api.Elem, N: 1, Dot: dot(0, 1, 6)}, {},
	}
	yes := 0
	for _, l := range rows(4, few...) {
		for _, v := range []api.Vec{nil, {1}, {2, 1}, {2, 1, 0}} {
			s := stored(v, l...)
			checkSound(t, s, isSound(s))
			if isSound(s) {
				yes++
			}
		}
	}
	if yes < 40 {
		t.Fatalf("only %d are sound", yes)
	}
}

func TestP15_1DoKnown(t *testing.T) {
	x, y := reg("a", "x", dot(0, 1, 0)), reg("a", "y", dot(1, 1, 0))
	putX, putY := of(0, 1, nil, put(0, "a", "x")), of(1, 1, nil, put(0, "a", "y"))
	both := stored(api.Vec{1, 1}, x, y)
	for _, c := range []struct {
		s    api.Store
		t    api.Txn
		want api.Store
	}{
		// The chapter's example: neither heard the other.
		{api.Store{}, putX, stored(api.Vec{1}, x)},
		{api.Store{}, putY, stored(api.Vec{0, 1}, y)},
		{stored(api.Vec{1}, x), putY, both},
		{stored(api.Vec{0, 1}, y), putX, both},
		// One that heard one of them, or both, or neither.
		{both, of(2, 1, api.Vec{1}, put(3, "a", "z", x.Dot)), stored(api.Vec{1, 1, 1}, y, reg("a", "z", dot(2, 1, 3)))},
		{both, of(2, 1, api.Vec{1, 1}, put(3, "a", "z", x.Dot, y.Dot)), stored(api.Vec{1, 1, 1}, reg("a", "z", dot(2, 1, 3)))},
		{both, of(2, 1, nil, put(3, "a", "z")), stored(api.Vec{1, 1, 1}, x, y, reg("a", "z", dot(2, 1, 3)))},
		{both, of(0, 2, api.Vec{1}, put(3, "a", "z", x.Dot)), stored(api.Vec{2, 1}, reg("a", "z", dot(0, 2, 3)), y)},
		// It has no effects.
		{api.Store{}, of(3, 1, nil), stored(api.Vec{0, 0, 0, 1})},
		{both, of(1, 2, api.Vec{1, 1}), stored(api.Vec{1, 2}, x, y)},
		// It drops what is there, under its own key and another one, what is not there, and what it made itself.
		{both, of(1, 2, api.Vec{1, 1}, del(0, "a", x.Dot)), stored(api.Vec{1, 2}, y)},
		{both, of(1, 2, api.Vec{1, 1}, del(0, "b", x.Dot, y.Dot)), stored(api.Vec{1, 2})},
		{both, of(1, 2, api.Vec{1, 1}, del(0, "a", dot(0, 1, 1), dot(0, 1, 7), dot(1, 1, 1))), stored(api.Vec{1, 2}, x, y)},
		{both, of(1, 2, api.Vec{1, 1}, inc(0, "a", 4), inc(1, "a", 5, dot(1, 2, 0))), stored(api.Vec{1, 2}, x, y, count("a", 5, dot(1, 2, 1)))},
		{both, of(1, 2, api.Vec{1, 1}, inc(0, "a", 4), del(1, "a", dot(0, 1, 0), dot(1, 2, 0))), stored(api.Vec{1, 2}, y)},
		// Eight effects, the last number that there is.
		{stored(api.Vec{0, maxSeq - 1}, y), of(1, maxSeq, api.Vec{0, maxSeq - 1}, put(7, "a", "z", y.Dot)), stored(api.Vec{0, maxSeq}, reg("a", "z", dot(1, maxSeq, 7)))},
		{api.Store{}, of(0, 1, nil, inc(0, "h", 0), inc(1, "g", 1), inc(2, "f", 2), inc(3, "e", 3), inc(4, "d", 4), inc(5, "c", 5), inc(6, "b", 6), inc(7, "a", 7)),
			stored(api.Vec{1}, count("a", 7, dot(0, 1, 7)), count("b", 6, dot(0, 1, 6)), count("c", 5, dot(0, 1, 5)), count("d", 4, dot(0, 1, 4)), count("e", 3, dot(0, 1, 3)), count("f", 2, dot(0, 1, 2)), count("g", 1, dot(0, 1, 1)), count("h", 0, dot(0, 1, 0)))},
		// Stores that are not sound: what was heard is trimmed, the items are in their one form behind an effect.
		{stored(api.Vec{0, -1, 0}), of(0, 1, nil), stored(api.Vec{1})},
		{stored(api.Vec{-7, 1}, y), putX, both},
		{stored(api.Vec{0, 1, 0}, y, y), putX, both},
		{stored(nil, y, y, x, x), of(0, 1, nil), stored(api.Vec{1}, y, y, x, x)},
		{stored(nil, y, y), putX, stored(api.Vec{1}, x, y)},
		{stored(nil, reg("b", "x", x.Dot), reg("a", "", x.Dot)), putX, stored(api.Vec{1}, reg("a", "", x.Dot))},
		{stored(api.Vec{0, 0, 0, 0, 0, 0, 0, 0, 5, 0}), putX, stored(api.Vec{1, 0, 0, 0, 0, 0, 0, 0, 5}, x)},
		{stored(api.Vec{0, maxSeq + 1}), of(0, 1, api.Vec{0, maxSeq}, put(0, "a", "x")), stored(api.Vec{1, maxSeq + 1}, x)},
		{stored(nil, api.Item{}), putX, stored(api.Vec{1}, api.Item{}, x)},
	} {
		checkDo(t, c.s, c.t, c.want, api.OK)
		if got, err := doOf(c.s, c.t); err != api.OK || !sameStore(got, c.want) {
			t.Fatalf("the words of these tests say %s, %d of %s, %s", short(got), err, short(c.s), short(c.t))
		}
	}
}

func TestP15_1DoErrors(t *testing.T) {
	x := reg("a", "x", dot(0, 1, 0))
	s := stored(api.Vec{3, 1}, x, reg("b", "y", dot(1, 1, 0)))
	for _, c := range []struct {
		s    api.Store
		t    api.Txn
		want api.Errno
	}{
		// Not formed: alone, old as well, behind a gap as well.
		{s, api.Txn{}, api.ErrForm},
		{api.Store{}, api.Txn{}, api.ErrForm},
		{s, of(0, 4, api.Vec{3}, put(8, "a", "x")), api.ErrForm},
		{s, of(0, 4, api.Vec{3}, put(0, "", "x")), api.ErrForm},
		{s, of(0, 4, api.Vec{3}, del(0, "a")), api.ErrForm},
		{s, of(0, 4, api.Vec{3}, del(0, "a", dot(1, 1, 0))), api.ErrForm},
		{s, of(0, 4, api.Vec{3}, del(0, "a", dot(0, 4, 0))), api.ErrForm},
		{s, of(0, 4, api.Vec{3, 1, 0}), api.ErrForm},
		{s, of(0, 4, api.Vec{3, -1}), api.ErrForm},
		{s, of(0, 4, nil), api.ErrForm},
		{s, of(0, 4, api.Vec{2, 1}), api.ErrForm},
		{s, of(8, 1, nil), api.ErrForm},
		{s, of(-1, 1, nil), api.ErrForm},
		{s, of(2, 0, nil), api.ErrForm},
		{s, of(0, 3, api.Vec{2, 1, 0}), api.ErrForm},
		{s, of(0, 2, api.Vec{1}, put(8, "a", "x")), api.ErrForm},
		{s, of(0, 2, nil), api.ErrForm},
		{s, of(0, 0, nil), api.ErrForm},
		{s, of(0, 9, api.Vec{7}), api.ErrForm},
		{s, of(0, 9, api.Vec{8}, put(8, "a", "x")), api.ErrForm},
		{s, of(2, 1, api.Vec{4}, put(8, "a", "x")), api.ErrForm},
		{s, of(0, maxSeq+1, api.Vec{maxSeq}), api.ErrForm},
		{stored(api.Vec{maxSeq}), of(0, maxSeq+1, api.Vec{maxSeq}), api.ErrForm},
		{stored(api.Vec{0, 0, 0, 0, 0, 0, 0, 0, 1}), of(8, 1, nil), api.ErrForm},
		// Old: the last one, the first one, with Deps that are heard and that are not.
		{s, of(0, 3, api.Vec{2}), api.ErrOld},
		{s, of(0, 3, api.Vec{2}, put(0, "a", "new")), api.ErrOld},
		{s, of(0, 1, nil, put(0, "a", "x")), api.ErrOld},
		{s, of(0, 2, api.Vec{1, 9}), api.ErrOld},
		{s, of(1, 1, api.Vec{4}), api.ErrOld},
		{s, of(1, 1, api.Vec{0, 0, 0, 0, 0, 0, 0, maxSeq}), api.ErrOld},
		{stored(api.Vec{maxSeq}), of(0, maxSeq, api.Vec{maxSeq - 1}), api.ErrOld},
		{stored(api.Vec{math.MaxInt, 0}), of(0, maxSeq, api.Vec{maxSeq - 1}), api.ErrOld},
		// A gap: one or more of its own node are missing.
		{s, of(0, 5, api.Vec{4}), api.ErrGap},
		{s, of(1, 3, api.Vec{0, 2}), api.ErrGap},
		{s, of(2, 2, api.Vec{0, 0, 1}), api.ErrGap},
		{s, of(7, maxSeq, api.Vec{0, 0, 0, 0, 0, 0, 0, maxSeq - 1}), api.ErrGap},
		{api.Store{}, of(0, 2, api.Vec{1}), api.ErrGap},
		{stored(api.Vec{-1}), of(0, 2, api.Vec{1}), api.ErrGap},
		{stored(api.Vec{maxSeq - 2}), of(0, maxSeq, api.Vec{maxSeq - 1}), api.ErrGap},
		// Its Deps are above what was heard in one place alone.
		{s, of(0, 4, api.Vec{3, 2}), api.ErrGap},
		{s, of(0, 4, api.Vec{3, 1, 1}), api.ErrGap},
		{s, of(1, 2, api.Vec{4, 1}), api.ErrGap},
		{s, of(2, 1, api.Vec{4, 1}), api.ErrGap},
		{s, of(2, 1, api.Vec{3, 1, 0, 0, 0, 0, 0, 1}), api.ErrGap},
		{s, of(2, 1, api.Vec{3, 2}, put(0, "a", "x")), api.ErrGap},
		{stored(api.Vec{3, -1}), of(2, 1, api.Vec{3, 1}), api.ErrGap},
	} {
		checkDo(t, c.s, c.t, api.Store{}, c.want)
		if _, err := doOf(c.s, c.t); err != c.want {
			t.Fatalf("the words of these tests say %d of %s, %s", err, short(c.s), short(c.t))
		}
	}
}

func TestP15_1DoBySeq(t *testing.T) {
	for _, n := range ints() {
		for _, seq := range ints() {
			for node := range 8 {
				v := append(make(api.Vec, node), n)
				x := of(node, seq, trimmed(append(make(api.Vec, node), seq-1)...))
				switch {
				case seq < 1 || seq > maxSeq:
					checkDo(t, stored(v), x, api.Store{}, api.ErrForm)
				case seq <= n:
					checkDo(t, stored(v), x, api.Store{}, api.ErrOld)
				case seq > max(n, 0)+1:
					checkDo(t, stored(v), x, api.Store{}, api.ErrGap)
				default:
					checkDo(t, stored(v), x, stored(append(make(api.Vec, node), seq)), api.OK)
				}
			}
		}
	}
}

func TestP15_1DoByDeps(t *testing.T) {
	// One number of Deps alone lies above what was heard, or none does.
	for _, said := range []int{1, 2, 100, maxSeq - 1} {
		for place := range 8 {
			for node := range 8 {
				for n := said - 1; n <= said+1; n++ {
					deps := slices.Repeat(api.Vec{said}, 8)
					deps[place] = n
					deps[node] = said
					if deps[7] == 0 {
						deps[7] = 1
					}
					s, want := stored(slices.Repeat(api.Vec{said}, 8)), api.OK
					if n > said && place != node {
						want = api.ErrGap
					}
					if _, err := Do(s, of(node, said+1, deps)); err != want {
						t.Fatalf("Do(%s, ..) of %d, %d, %d errs with %d; want %d", short(s), node, said+1, deps, err, want)
					}
				}
			}
		}
	}
}

func TestP15_2AllKnown(t *testing.T) {
	x, y := reg("a", "x", dot(0, 1, 0)), reg("a", "y", dot(1, 1, 0))
	one, two, three := of(0, 1, nil, put(0, "a", "x")), of(0, 2, api.Vec{1}, put(0, "a", "z", x.Dot)), of(0, 3, api.Vec{2})
	other, behind := of(1, 1, nil, put(0, "a", "y")), of(1, 2, api.Vec{2, 1}, del(0, "a", y.Dot, dot(1, 1, 3)), inc(1, "b", 4))
	z, four := reg("a", "z", dot(0, 2, 0)), count("b", 4, dot(1, 2, 1))
	end := stored(api.Vec{3, 2}, z, four)
	wrong := of(0, 1, nil, put(8, "a", "x"))
	odd := stored(api.Vec{0, -1, 0}, y, y, x, api.Item{})
	for _, c := range []struct {
		s    api.Store
		l    []api.Txn
		want api.Store
		done []api.Txn
	}{
		// Nothing, and the chapter's example.
		{api.Store{}, nil, api.Store{}, nil},
		{stored(api.Vec{1}, x), txns(), stored(api.Vec{1}, x), nil},
		{api.Store{}, txns(one, other), stored(api.Vec{1, 1}, x, y), txns(one, other)},
		{api.Store{}, txns(other, one), stored(api.Vec{1, 1}, x, y), txns(other, one)},
		// All in their order, turned about, and mixed.
		{api.Store{}, txns(one, two, three, other, behind), end, txns(one, two, three, other, behind)},
		{api.Store{}, txns(behind, other, three, two, one), end, txns(other, one, two, behind, three)},
		{api.Store{}, txns(three, one, behind, two, other), end, txns(one, two, three, other, behind)},
		{api.Store{}, txns(two, behind, other, one, three), end, txns(other, one, two, behind, three)},
		// Some were heard already.
		{stored(api.Vec{1}, x), txns(three, two, one), stored(api.Vec{3}, z), txns(two, three)},
		{stored(api.Vec{2, 1}, y, z), txns(behind, other, three, two, one), stored(api.Vec{3, 2}, z, four), txns(behind, three)},
		// None is taken: the store that came in, as it is.
		{api.Store{}, txns(two, three, behind), api.Store{}, nil},
		{stored(api.Vec{1}, x), txns(one, three, behind), stored(api.Vec{1}, x), nil},
		{end, txns(one, two, three, other, behind), end, nil},
		{odd, nil, odd, nil},
		{odd, txns(two, three, behind, wrong), odd, nil},
		// One that is taken trims what was heard, and one with an effect brings the items into their one form.
		{odd, txns(of(0, 1, nil)), stored(api.Vec{1}, y, y, x, api.Item{}), txns(of(0, 1, nil))},
		{odd, txns(of(2, 1, nil, inc(0, "b", 4))), stored(api.Vec{0, 0, 1}, api.Item{}, x, y, count("b", 4, dot(2, 1, 0))), txns(of(2, 1, nil, inc(0, "b", 4)))},
		{stored(api.Vec{1}, y, y, x), txns(of(0, 2, api.Vec{1}, del(0, "a", x.Dot))), stored(api.Vec{2}, y), txns(of(0, 2, api.Vec{1}, del(0, "a", x.Dot)))},
		{stored(api.Vec{1}, y, y), txns(of(0, 2, api.Vec{1}, del(0, "a", x.Dot))), stored(api.Vec{2}, y), txns(of(0, 2, api.Vec{1}, del(0, "a", x.Dot)))},
		{stored(nil, y, y, z), txns(of(0, 1, nil, inc(0, "b", 4), del(1, "b", dot(0, 1, 0)))), stored(api.Vec{1}, z, y), txns(of(0, 1, nil, inc(0, "b", 4), del(1, "b", dot(0, 1, 0))))},
		// Two have one Node and Seq, alike and unlike: the first one that is taken.
		{api.Store{}, txns(one, one), stored(api.Vec{1}, x), txns(one)},
		{api.Store{}, txns(two, one, two, one), stored(api.Vec{2}, z), txns(one, two)},
		{api.Store{}, txns(one, of(0, 1, nil, inc(0, "b", 1))), stored(api.Vec{1}, x), txns(one)},
		{api.Store{}, txns(of(0, 1, nil, inc(0, "b", 1)), one), stored(api.Vec{1}, count("b", 1, dot(0, 1, 0))), txns(of(0, 1, nil, inc(0, "b", 1)))},
		{api.Store{}, txns(of(0, 1, api.Vec{0, 1}), one, other), stored(api.Vec{1, 1}, x, y), txns(one, other)},
		{api.Store{}, txns(of(0, 1, api.Vec{0, 1}), other, one), stored(api.Vec{1, 1}, y), txns(other, of(0, 1, api.Vec{0, 1}))},
		{api.Store{}, txns(wrong, one), stored(api.Vec{1}, x), txns(one)},
		// One is missing: those behind it are not done.
		{api.Store{}, txns(one, three, other, behind), stored(api.Vec{1, 1}, x, y), txns(one, other)},
		{api.Store{}, txns(two, three, other, behind), stored(api.Vec{0, 1}, y), txns(other)},
		{api.Store{}, txns(behind, three, two, one), stored(api.Vec{3}, z), txns(one, two, three)},
		// Some are not formed: they and those behind them are not done.
		{api.Store{}, txns(wrong, two, other, api.Txn{}), stored(api.Vec{0, 1}, y), txns(other)},
		{api.Store{}, txns(of(8, 1, nil), of(-1, 1, nil), of(0, 1, api.Vec{0}), of(0, 0, nil), one, of(0, 2, nil), of(0, 2, api.Vec{1, 0})), stored(api.Vec{1}, x), txns(one)},
		{stored(api.Vec{maxSeq - 1}), txns(of(0, maxSeq+1, api.Vec{maxSeq}), of(0, maxSeq, api.Vec{maxSeq - 1})), stored(api.Vec{maxSeq}), txns(of(0, maxSeq, api.Vec{maxSeq - 1}))},
		{stored(api.Vec{0, 0, 0, 0, 0, 0, 0, 0, 1}), txns(of(8, 2, nil), one), stored(api.Vec{1, 0, 0, 0, 0, 0, 0, 0, 1}, x), txns(one)},
	} {
		checkAll(t, c.s, c.l, c.want, c.done)
		if want, done, _ := allOf(c.s, c.l); !sameStore(want, c.want) || !sameTxns(done, c.done) {
			t.Fatalf("the words of these tests say %s, %s of %s, %s", short(want), short(done), short(c.s), short(c.l))
		}
	}
}

func TestP15_2WhatIsDoneIsWhole(t *testing.T) {
	x := of(2, 1, api.Vec{4, 1},
		api.Eff{At: 1, Key: "k", Field: "f", Kind: api.Elem, Elem: "e\x00", Drops: []api.Dot{dot(0, 3, 2), dot(0, 4, 1)}},
		api.Eff{At: 4, Key: "k", Field: "g", Kind: api.Count, N: math.MinInt64},
		api.Eff{At: 7, Key: "l", Field: "h", Drops: []api.Dot{dot(2, 1, 3), dot(2, 1, 4)}},
	)
	made := api.Item{Key: "k", Field: "f", Kind: api.Elem, Elem: "e\x00", Dot: dot(2, 1, 1)}
	checkDo(t, stored(api.Vec{4, 1}), x, stored(api.Vec{4, 1, 1}, made), api.OK)
	checkAll(t, stored(api.Vec{4, 1}), txns(of(2, 2, api.Vec{0, 0, 1}), x), stored(api.Vec{4, 1, 2}, made), txns(x, of(2, 2, api.Vec{0, 0, 1})))
}

func TestP15_2UnderKnown(t *testing.T) {
	a, ab, b := reg("a", "x", dot(0, 1, 0)), reg("a/b", "x", dot(0, 1, 1)), count("b", 7, dot(1, 1, 0))
	s := stored(api.Vec{1, 1, 5}, a, ab, b)
	odd := stored(api.Vec{1, -1, 0}, b, a, a, ab, api.Item{Key: "A"}, api.Item{})
	for _, c := range []struct {
		s    api.Store
		z    []string
		want api.Store
	}{
		{api.Store{}, nil, api.Store{}},
		{api.Store{}, []string{"a"}, api.Store{}},
		{s, nil, stored(s.Heard)},
		{s, []string{}, stored(s.Heard)},
		{s, []string{"c"}, stored(s.Heard)},
		{s, []string{"a/b/"}, stored(s.Heard)},
		{s, []string{""}, s},
		{s, []string{"a", "b"}, s},
		{s, []string{"a"}, stored(s.Heard, a, ab)},
		{s, []string{"a/"}, stored(s.Heard, ab)},
		{s, []string{"b"}, stored(s.Heard, b)},
		{s, []string{"a/b", "b"}, stored(s.Heard, ab, b)},
		{s, []string{"b", "a", "a/b"}, s},
		{odd, nil, stored(odd.Heard)},
		{odd, []string{""}, odd},
		{odd, []string{"a"}, stored(odd.Heard, a, a, ab)},
		{odd, []string{"b", "A"}, stored(odd.Heard, b, api.Item{Key: "A"})},
	} {
		checkUnder(t, c.s, c.z, c.want)
		if want := underOf(c.s, c.z); !sameStore(want, c.want) {
			t.Fatalf("the words of these tests say %s of %s, %q", short(want), short(c.s), c.z)
		}
	}
}

// few are transactions of few nodes and numbers, formed or not, and stores sound or not.
func few() ([]api.Txn, []api.Store) {
	l := txns(
		of(0, 1, nil, put(0, "a", "x")), of(0, 1, nil, put(0, "b", "x"), del(1, "b", dot(0, 1, 0))), of(0, 1, api.Vec{0, 1}, inc(0, "a", 1, dot(1, 1, 0))),
		of(0, 2, api.Vec{1}, put(0, "a", "y", dot(0, 1, 0))), of(0, 2, api.Vec{1, 1}, del(1, "a", dot(0, 1, 0), dot(1, 1, 0))), of(0, 2, api.Vec{1, 2}),
		of(1, 1, nil, put(0, "a", "z")), of(1, 1, api.Vec{1}, put(0, "a", "z", dot(0, 1, 0))), of(1, 2, api.Vec{1, 1}, inc(0, "a", 5), inc(1, "a", 6, dot(1, 1, 1), dot(1, 2, 0))),
		of(0, 0, nil), of(0, 2, api.Vec{1}, del(0, "a")), of(8, 1, nil),
	)
	x, y := reg("a", "x", dot(0, 1, 0)), reg("a", "y", dot(1, 1, 0))
	return l, []api.Store{
		{}, stored(api.Vec{1}, x), stored(api.Vec{0, 1}, y), stored(api.Vec{-1, 0}, y, x), stored(nil, reg("c", "", x.Dot), y, y, reg("c", "", dot(1, 1, 0)), reg("b", "", dot(0, 1, 0))),
	}
}

func TestP15_2AllShortLists(t *testing.T) {
	l, stores := few()
	many := 0
	for _, row := range rows(4, l...) {
		for _, s := range stores {
			want, done, _ := allOf(s, row)
			checkAll(t, s, row, want, done)
			if len(done) == 4 {
				many++
			}
		}
	}
	if many < 100 {
		t.Fatalf("all four were done %d times", many)
	}
	for _, s := range stores {
		checkWords(t, s, l)
	}
}

func TestP15_2SomeLists(t *testing.T) {
	none, many, sound := 0, 0, 0
	for seed := range uint32(10000) {
		s, l := odds(seed)
		switch n := checkWords(t, s, l); {
		case n == 0:
			none++
		case n > 5:
			many++
		}
		if isSound(s) {
			sound++
		}
	}
	if none < 500 || many < 1000 || sound < 1000 || sound > 8000 {
		t.Fatalf("of %d lists none is done, of %d more than five; %d stores are sound", none, many, sound)
	}
}

func TestP15_2LongLists(t *testing.T) {
	const n = 4096
	var row, again []api.Txn
	for i := range n {
		// Each counter of the node 3 goes up by what it makes, and another node takes half of them away.
		x := of(3, i+1, trimmed(0, 0, 0, i))
		y := of(0, i+1, trimmed(i, 0, 0, n))
		for at := range 8 {
			x.Effs = append(x.Effs, inc(at, "k/"+strings.Repeat("z", i%9), int64(i)))
			if at%2 == 0 {
				y.Effs = append(y.Effs, del(at, "q", dot(3, min(i+1, n-i), at), dot(3, max(i+1, n-i), at)))
			}
		}
		row, again = append(row, x), append(again, y)
	}
	all, half := stored(api.Vec{0, 0, 0, n}), stored(api.Vec{n, 0, 0, n})
	for _, x := range row {
		for _, e := range x.Effs {
			made := count(e.Key, e.N, dot(3, x.Seq, e.At))
			all.Items = append(all.Items, made)
			if e.At%2 == 1 {
				half.Items = append(half.Items, made)
			}
		}
	}
	all.Items, half.Items = item.Norm(all.Items), item.Norm(half.Items)
	turned := slices.Concat(again, row)
	slices.Reverse(turned)
	checkAll(t, api.Store{}, row, all, row)
	checkAll(t, all, again, half, again)
	checkAll(t, api.Store{}, turned, half, slices.Concat(row, again))
	checkAll(t, api.Store{}, mixed(row, chance(3)), all, row)
	checkAll(t, all, slices.Repeat(row, 10), all, nil)
	checkAll(t, half, turned, half, nil)
	checkSound(t, all, true)
	checkSound(t, half, true)
	checkSound(t, stored(half.Heard, mixed(half.Items, chance(3))...), false)
	checkUnder(t, all, []string{"k/zzzzzzzz"}, underOf(all, []string{"k/zzzzzzzz"}))
}

func TestP15_3TheHistoriesAreFormed(t *testing.T) {
	// These tests lean on it: all are formed, done one behind the other, and many take something away.
	drops, beside := 0, 0
	for seed := range uint32(300) {
		for _, own := range []bool{true, false} {
			var s api.Store
			for _, x := range history(1+int(seed%5), 20, own, chance(seed)) {
				for i, e := range x.Effs {
					ahead := of(x.Node, x.Seq, nil, x.Effs[:i]...)
					for _, y := range effsOf(s.Items, ahead) {
						if !slices.Contains(e.Drops, y.Dot) {
							continue
						}
						drops++
						if y.Key != e.Key {
							beside++
						}
						if own && y.Key != e.Key {
							t.Fatalf("%s takes away what stands under another key: %s", short(e), short(y))
						}
					}
				}
				err := api.OK
				if s, err = doOf(s, x); err != api.OK {
					t.Fatalf("%s errs with %d", short(x), err)
				}
			}
		}
	}
	if drops < 5000 || beside < 1000 {
		t.Fatalf("only %d items were taken away, %d of another key", drops, beside)
	}
}

func TestP15_3SoundStaysSound(t *testing.T) {
	for seed := range uint32(800) {
		next := chance(seed)
		l := history(1+next(8), next(24), false, next)
		var s api.Store
		checkSound(t, s, true)
		for _, x := range l {
			behind, err := Do(s, x)
			if err != api.OK {
				t.Fatalf("Do(%s, %s) errs with %d", short(s), short(x), err)
			}
			checkSound(t, behind, true)
			s = behind
		}
		for _, part := range [][]api.Txn{l, mixed(l, next), l[:next(len(l)+1)], l[next(len(l)+1):]} {
			end, _ := All(api.Store{}, part)
			checkSound(t, end, true)
			end, _ = All(end, mixed(l, next))
			checkSound(t, end, true)
			for _, z := range zones() {
				checkSound(t, Under(end, z), true)
			}
		}
	}
}

func TestP15_3SoundStaysSoundOfOddLists(t *testing.T) {
	some := 0
	for seed := range uint32(6000) {
		s, l := odds(seed)
		if !isSound(s) {
			continue
		}
		some++
		end, _ := All(s, l)
		checkSound(t, end, true)
		for _, x := range l {
			if behind, err := Do(s, x); err == api.OK {
				checkSound(t, behind, true)
			} else {
				checkDo(t, s, x, api.Store{}, err)
			}
		}
	}
	if some < 500 {
		t.Fatalf("only %d stores are sound", some)
	}
}

// checkOrders tells whether a list, in whatever of these orders, leaves the same store, and the same ones are done.
func checkOrders(t *testing.T, s api.Store, l []api.Txn, all [][]api.Txn) {
	t.Helper()
	byName := func(a, b api.Txn) int {
		return slices.Compare([]int{a.Node, a.Seq}, []int{b.Node, b.Seq})
	}
	want, done := All(s, l)
	slices.SortFunc(done, byName)
	for _, order := range all {
		end, others := All(s, order)
		slices.SortFunc(others, byName)
		if !sameStore(end, want) || !sameTxns(others, done) {
			t.Fatalf("All(%s, ..) of %s leaves %s, and %s were done; of %s: %s, %s", short(s), short(l), short(want), short(done), short(order), short(end), short(others))
		}
	}
}

func TestP15_3InWhateverOrder(t *testing.T) {
	// No two of one Node and Seq, some not formed, some missing: all orders of short lists.
	_, stores := few()
	lists := [][]api.Txn{
		txns(of(0, 1, nil, put(0, "a", "x")), of(1, 1, nil, put(0, "a", "y"))),
		txns(of(0, 1, nil, put(0, "a", "x")), of(1, 1, api.Vec{1}, put(0, "a", "y", dot(0, 1, 0))), of(2, 1, api.Vec{1, 1}, put(0, "a", "z", dot(1, 1, 0))), of(3, 1, api.Vec{1}, del(0, "a", dot(0, 1, 0)))),
		txns(of(0, 1, nil, put(0, "a", "x")), of(0, 2, api.Vec{1}, del(0, "b", dot(0, 1, 0))), of(1, 1, api.Vec{1}, inc(0, "b", 4, dot(0, 1, 0))), of(1, 2, api.Vec{2, 1}, inc(0, "b", 5, dot(1, 1, 0))), of(8, 1, nil)),
		txns(of(0, 1, nil, put(8, "a", "x")), of(0, 2, api.Vec{1}), of(1, 1, api.Vec{1}), of(1, 2, api.Vec{0, 1}), of(2, 1, nil)),
	}
	for seed := range uint32(120) {
		next := chance(seed)
		l := history(1+next(4), next(7), false, next)
		if len(l) > 0 && next(3) == 0 {
			place := next(len(l))
			l = slices.Delete(l, place, place+1)
		}
		if len(l) > 0 && next(4) == 0 {
			place := next(len(l))
			l[place].Deps = append(slices.Clone(l[place].Deps), 0)
		}
		lists = append(lists, l)
	}
	for _, l := range lists {
		all := orders(l)
		for _, s := range stores {
			checkOrders(t, s, l, all)
		}
	}
}

func TestP15_3LongOnesInWhateverOrder(t *testing.T) {
	for seed := range uint32(200) {
		next := chance(seed)
		l := history(1+next(8), 10+next(60), false, next)
		end, _, _ := allOf(api.Store{}, l)
		checkAll(t, api.Store{}, l, end, l)
		known, _ := All(api.Store{}, l[:next(len(l))])
		if next(2) == 0 {
			place := next(len(l))
			l = slices.Delete(l, place, place+1)
		}
		var all [][]api.Txn
		for range 5 {
			all = append(all, mixed(l, next))
		}
		checkOrders(t, api.Store{}, l, all)
		checkOrders(t, known, l, all)
	}
}

func TestP15_3WhatComesOnceMoreChangesNothing(t *testing.T) {
	for seed := range uint32(4000) {
		s, l := odds(seed)
		end, done := All(s, l)
		checkAll(t, end, l, end, nil)
		checkAll(t, end, done, end, nil)
		checkAll(t, end, append(slices.Clone(l), l...), end, nil)
		for _, x := range done {
			checkDo(t, end, x, api.Store{}, api.ErrOld)
		}
		// What was done is done one behind the other, and twice as much does no more.
		walked := s
		for _, x := range done {
			behind, err := Do(walked, x)
			if err != api.OK {
				t.Fatalf("of All(%s, %s) Do(%s, %s) errs with %d", short(s), short(l), short(walked), short(x), err)
			}
			walked = behind
		}
		if !sameStore(walked, end) {
			t.Fatalf("All(%s, %s) leaves %s; one behind the other: %s", short(s), short(l), short(end), short(walked))
		}
		checkAll(t, s, slices.Concat(l, l), end, done)
		checkAll(t, s, done, end, done)
	}
}

func TestP15_3UnderAZone(t *testing.T) {
	some := 0
	for seed := range uint32(500) {
		next := chance(seed)
		l := history(1+next(5), next(24), true, next)
		s, _ := All(api.Store{}, l[:next(len(l)+1)])
		l = mixed(l, next)
		end, done := All(s, l)
		for _, z := range zones() {
			var only []api.Txn
			for _, x := range l {
				only = append(only, txn.Only(x, z))
			}
			checkUnder(t, end, z, first(All(Under(s, z), only)))
			// One behind the other, and by what the effects under it make of what stood there.
			items, walked := Under(s, z).Items, s
			for _, x := range done {
				items = eff.Do(items, x.Node, x.Seq, eff.Only(x.Effs, z))
				walked, _ = Do(walked, x)
				checkUnder(t, walked, z, api.Store{Heard: walked.Heard, Items: items})
			}
			if len(items) > 0 && len(items) < len(end.Items) {
				some++
			}
		}
	}
	if some < 1200 {
		t.Fatalf("only %d times the zone covers some of the items", some)
	}
}

// first is the store that All leaves.
func first(s api.Store, done []api.Txn) api.Store { return s }

// spare is a list that has more behind it as its spare room.
func spare[T any](l []T, more ...T) []T { return slices.Concat(l, more)[:len(l)] }

// spareTxns is a list of transactions, with more behind each of the lists in it as spare room.
func spareTxns(l []api.Txn) []api.Txn {
	laid := spare(l, of(0, 1, nil), of(1, 1, nil, put(0, "s", "s")))
	for i, x := range laid {
		laid[i].Deps = spare(x.Deps, 5, 6, 7)
		laid[i].Effs = spare(x.Effs, put(7, "s", "s"), put(0, "s", "s"))
		for j, e := range laid[i].Effs {
			laid[i].Effs[j].Drops = spare(e.Drops, dot(5, 5, 5), api.Dot{})
		}
	}
	return laid
}

// spareStore is a store with more behind its lists as spare room.
func spareStore(s api.Store) api.Store {
	return api.Store{Heard: spare(s.Heard, 9, -1, 9), Items: spare(s.Items, reg("s", "s", dot(0, 1, 0)), api.Item{})}
}

// whole is a copy of a list, its spare room as a part of it; deep and deepStore are such copies with all lists in it.
func whole[T any](l []T) []T { return slices.Clone(l[:cap(l)]) }

func deep(l []api.Txn) []api.Txn {
	l = whole(l)
	for i, x := range l {
		l[i].Deps, l[i].Effs = whole(x.Deps), whole(x.Effs)
		for j, e := range l[i].Effs {
			l[i].Effs[j].Drops = whole(e.Drops)
		}
	}
	return l
}

func deepStore(s api.Store) api.Store {
	return api.Store{Heard: whole(s.Heard), Items: whole(s.Items)}
}

// turn, turnTxns and turnStore change all of a list, spare room and all.
func turn[T any](l []T, to T) {
	l = l[:cap(l)]
	for i := range l {
		l[i] = to
	}
}

func turnTxns(l []api.Txn) {
	for _, x := range l[:cap(l)] {
		turn(x.Deps, 77)
		for _, e := range x.Effs[:cap(x.Effs)] {
			turn(e.Drops, dot(9, 9, 9))
		}
		turn(x.Effs, api.Eff{Key: "turned"})
	}
	turn(l, of(77, 77, nil))
}

func turnStore(s api.Store) {
	turn(s.Heard, 77)
	turn(s.Items, api.Item{Key: "turned"})
}

// checkApart turns an answer, and tells whether that, or the call, changed what was handed in.
func checkApart(t *testing.T, what string, s api.Store, l []api.Txn, turnAnswer func()) {
	t.Helper()
	before, beforeTxns := deepStore(s), deep(l)
	turnAnswer()
	if !sameStore(deepStore(s), before) || !sameTxns(deep(l), beforeTxns) {
		t.Fatalf("%s(%s, %s): what was handed in, or its spare room, was changed, or is shared", what, short(before), short(beforeTxns))
	}
}

func TestP15_1NothingIsChangedOrShared(t *testing.T) {
	for seed := range uint32(1500) {
		said, list := odds(seed)
		for _, x := range list {
			s, l := spareStore(said), spareTxns(txns(x))
			checkApart(t, "Sound", s, nil, func() { checkSound(t, s, isSound(said)) })
			checkApart(t, "Do", s, l, func() {
				one, _ := Do(s, l[0])
				turnStore(one)
			})
			two, err := Do(s, l[0])
			turnStore(s)
			turnTxns(l)
			want, wantErr := doOf(said, x)
			if !sameStore(two, want) || err != wantErr {
				t.Fatalf("Do(%s, %s) shares: %s, %d; want %s, %d", short(said), short(x), short(two), err, short(want), wantErr)
			}
		}
	}
}

func TestP15_2NothingIsChangedOrShared(t *testing.T) {
	for seed := range uint32(2000) {
		said, list := odds(seed)
		want, wantDone, _ := allOf(said, list)
		s, l := spareStore(said), spareTxns(list)
		checkApart(t, "All", s, l, func() {
			one, done := All(s, l)
			turnTxns(done)
			if !sameStore(one, want) {
				t.Fatalf("All(%s, %s): what is done is shared with the store", short(said), short(list))
			}
			turnStore(one)
		})
		two, done := All(s, l)
		turnStore(two)
		if !sameTxns(done, wantDone) {
			t.Fatalf("All(%s, %s): the store is shared with what is done", short(said), short(list))
		}
		two, done = All(s, l)
		turnStore(s)
		turnTxns(l)
		if !sameStore(two, want) || !sameTxns(done, wantDone) {
			t.Fatalf("All(%s, %s) shares: %s, %s; want %s, %s", short(said), short(list), short(two), short(done), short(want), short(wantDone))
		}
	}
}

func TestP15_2UnderChangesAndSharesNothing(t *testing.T) {
	for seed := range uint32(1000) {
		said, _ := odds(seed)
		for _, prefixes := range zones() {
			s, z := spareStore(said), spare(prefixes, "a", "")
			before := whole(z)
			checkApart(t, "Under", s, nil, func() { turnStore(Under(s, z)) })
			two := Under(s, z)
			if !slices.Equal(whole(z), before) {
				t.Fatalf("Under(%s, %q) changes its zone", short(said), prefixes)
			}
			turnStore(s)
			turn(z, "turned")
			if want := underOf(said, prefixes); !sameStore(two, want) {
				t.Fatalf("Under(%s, %q) shares: %s; want %s", short(said), prefixes, short(two), short(want))
			}
		}
	}
}

func TestP15_2ListsOfOneAnswerAreApart(t *testing.T) {
	heard := api.Vec{1}
	drops := []api.Dot{dot(0, 1, 0), dot(0, 1, 3)}
	effs := []api.Eff{put(0, "a", "x", drops...), put(1, "b", "y", drops...)}
	l := txns(of(1, 1, heard, effs...), of(2, 1, heard, effs[:1]...), of(3, 1, heard, effs...))
	want, _, _ := allOf(stored(heard), l)
	for i := range l {
		end, done := All(stored(heard), l)
		turnTxns(done[i : i+1 : i+1])
		for j := range l {
			if j != i && !same(done[j], l[j]) {
				t.Fatalf("lists of one answer share: when %d is turned, %d is %s", i, j, short(done[j]))
			}
		}
		if !sameStore(end, want) || !slices.Equal(heard, api.Vec{1}) {
			t.Fatalf("the store of an answer shares: %s, %d", short(end), heard)
		}
	}
}

func TestP15_2SameEachTime(t *testing.T) {
	for seed := range uint32(200) {
		s, l := odds(seed)
		end, done := All(s, l)
		for range 10 {
			checkAll(t, s, l, end, done)
		}
	}
}
