package core

import (
	"bytes"
	"fmt"
	"math"
	"slices"
	"testing"

	"buttery/api"
	"buttery/msg"
	"buttery/past"
	"buttery/store"
	"buttery/vec"
)

// The chapter's example, byte by byte.
func TestP19_3TheExample(t *testing.T) {
	c, err := New(0, 1)
	if err != api.OK {
		t.Fatal(err)
	}
	x := of(1, 1, nil, add(0, "a", "x"))
	sent := []byte{1, 0, 0, 0, 0, 0, 0, 0, 1, 1, 1, 0, 1, 0, 1, 'a', 0, 1, 1, 'x', 0, 0, 0, 0, 0, 0, 0, 0, 0}
	if !bytes.Equal(sent, bytesOf(sending(x))) {
		t.Fatal("that is not what an edge sends")
	}
	learnt := []byte{0, 6, 0, 0, 0, 0, 0, 0, 0, 1, 1, 1, 0, 1, 0, 1, 'a', 0, 1, 1, 'x', 0, 0, 0, 0, 0, 0, 0, 0, 0}
	checkRecord(t, c, 1, sent, learnt, true)
	checkNoReply(t, c, 1, sent)
	behind := api.Core{
		Me: 0, Cores: 1, Known: []api.Vec{nil},
		Store: api.Store{Heard: api.Vec{0, 1}, Items: []api.Item{elem("a", "x", dot(1, 1, 0))}},
		Past:  api.Past{List: []api.Txn{x}},
	}
	checkDo(t, c, learnt, behind, api.OK)
	pull := []byte{2, 0, 0, 0, 0, 1, 1, 'b', 1, 1, 'b', 0, 0}
	checkNoRecord(t, behind, 1, pull)
	delta := []byte{4, 0, 0, 2, 0, 1, 0, 0, 1, 1, 'b', 0, 1, 1, 1, 0, 0}
	checkReply(t, behind, 1, pull, delta, true)
	checkReply(t, behind, 5, pull, delta, true)
	whole := bytesOf(pulling(0, true, nil, under("a"), under("a")))
	checkReply(t, behind, 1, whole, bytesOf(pushing(0, api.Vec{0, 1}, under("a"), elem("a", "x", dot(1, 1, 0)))), true)
}

func TestP19_1New(t *testing.T) {
	for _, me := range ints() {
		for _, cores := range ints() {
			if cores == 1 && me == 0 || cores == 2 && (me == 0 || me == 1) || cores == 3 && (me == 0 || me == 1 || me == 2) {
				checkNew(t, me, cores, api.Core{Me: me, Cores: cores, Known: make([]api.Vec, cores)}, api.OK)
				continue
			}
			checkNew(t, me, cores, api.Core{}, api.ErrArg)
		}
	}
}

func TestP19_1NewHasHeardNothing(t *testing.T) {
	for cores := 1; cores <= 3; cores++ {
		for me := range cores {
			c := coreOf(me, cores)
			if !bytes.Equal(Ask(c), bytesOf(asking())) {
				t.Fatalf("New(%d, %d) asks with %s", me, cores, short(Ask(c)))
			}
			for j := range cores {
				checkNoReply(t, c, j, bytesOf(asking()))
			}
			checkReply(t, c, 7, bytesOf(pulling(2, false, nil, under("a"), under("a"))), bytesOf(leading(2, nil, nil, under("a"))), true)
			checkReply(t, c, 7, bytesOf(pulling(2, false, nil, under("a"), under("b"))), bytesOf(pushing(2, nil, under("b"))), true)
			checkDo(t, c, Prune(), c, api.OK)
		}
	}
}

// numbers are those of records, those between them and behind them.
func numbers() []int {
	return []int{0, 1, 2, 3, 4, 5, 6, 7, 8, 9, 10, 11, 63, 64, 127, 128, 129, 137, 255, 256, 265, 1 << 14, 1 << 21, 1 << 32, 1<<32 + 1, 1<<32 + 9, 1<<56 - 1}
}

func TestP19_1DoByNumberAndKind(t *testing.T) {
	for cores := 1; cores <= 3; cores++ {
		for me := range cores {
			c := coreOf(me, cores, learning(run(4, 1, 2, "a")...), telling(0, 0, 3))
			for _, number := range numbers() {
				for _, m := range every() {
					learns := number == 0 && m.Kind == 6
					hears := 1 <= number && number <= cores && m.Kind == 5
					prunes := number == 9 && m.Kind == 6 && len(m.Txns) == 0
					_, err := Do(c, rec(number, m))
					if (err == api.OK) != (learns || hears || prunes) {
						t.Fatalf("Do(one of %d cores, %d and %s) errs with %d", cores, number, short(m), err)
					}
					want, wantErr := doOf(c, rec(number, m))
					checkDo(t, c, rec(number, m), want, wantErr)
				}
			}
		}
	}
}

// records are such of each kind, for one of three cores.
func records() [][]byte {
	return [][]byte{
		learning(run(4, 1, 3, "a")...), learning(of(4, 1, nil)), learning(),
		telling(0), telling(0, 1), telling(1, 0, 0, 0, 2), telling(2, 1, 2, 3, 4, 5, 6, 7, 8), rec(9, filling()),
	}
}

func TestP19_1DoOfNoRecord(t *testing.T) {
	c := coreOf(1, 3, learning(run(4, 1, 2, "a")...))
	checkRefused(t, c, nil)
	checkRefused(t, c, []byte{})
	for number := range 256 {
		checkRefused(t, c, []byte{byte(number)})
	}
	for _, r := range records() {
		if _, err := Do(c, r); err != api.OK {
			t.Fatalf("Do(.., %s) errs with %d", short(r), err)
		}
		for n := range len(r) {
			checkRefused(t, c, r[:n])
		}
		for b := range 256 {
			checkRefused(t, c, append(slices.Clone(r), byte(b)))
		}
		checkRefused(t, c, slices.Concat(r, r))
		checkRefused(t, c, slices.Concat(r, r[1:]))
		// The message alone, and the number in forms that are longer than its one.
		checkRefused(t, c, r[1:])
		checkRefused(t, c, slices.Concat([]byte{r[0] | 0x80, 0}, r[1:]))
		checkRefused(t, c, slices.Concat([]byte{r[0] | 0x80, 0x80, 0}, r[1:]))
		checkRefused(t, c, slices.Concat([]byte{r[0] | 0x80, 0x80, 0x80, 0x80, 0x80, 0x80, 0x80, 0x80, 0}, r[1:]))
		checkRefused(t, c, slices.Concat(bytes.Repeat([]byte{0xff}, 9), r[1:]))
	}
}

func TestP19_1DoOfAMessageThatIsNotFormed(t *testing.T) {
	c := coreOf(0, 3)
	for _, b := range [][]byte{
		{0, 6, 1, 0, 0, 0, 0, 0, 0, 0},                   // a Fill with a ticket
		{0, 6, 0, 1, 0, 0, 0, 0, 0, 0},                   // one with Whole
		{0, 6, 0, 0, 1, 1, 0, 0, 0, 0, 0},                // one with Vec
		{0, 6, 0, 0, 0, 0, 0, 0, 0, 1, 0, 0, 0, 0},       // one whose transaction has no number
		{0, 6, 0, 0, 0, 0, 0, 0, 0, 1, 0, 2, 0, 0},       // one whose transaction hangs on nothing of its own node
		{2, 5, 0, 0, 1, 0, 0, 0, 0, 0, 0},                // an Ask whose Vec is not trimmed
		{2, 5, 0, 0, 0, 1, 1, 0, 0, 0, 0},                // one with From
		{9, 6, 9, 0, 0, 0, 0, 0, 0, 0},                   // a Fill with a ticket
		{9, 6, 0, 0, 0, 0, 1, 0, 0, 0, 0},                // one with Zone
		{9, 6, 0, 0, 0, 0, 0, 0, 0, 1, 4, 1, 0, 0},       // one with a transaction
		{9, 1, 0, 0, 0, 0, 0, 0, 0, 0},                   // a Send
		{0, 1, 0, 0, 0, 0, 0, 0, 0, 1, 4, 1, 0, 0},       // a Send
		{9, 0, 0, 0, 0, 0, 0, 0, 0, 0},                   // no kind
		{0, 7, 0, 0, 0, 0, 0, 0, 0, 1, 4, 1, 0, 0},       // no kind
		{1, 5, 0, 0, 9, 1, 1, 1, 1, 1, 1, 1, 1, 1, 0, 0}, // an Ask of more nodes than there are
	} {
		checkRefused(t, c, b)
	}
	for _, b := range [][]byte{{0, 6, 0, 0, 0, 0, 0, 0, 0, 1, 4, 1, 0, 0}, {2, 5, 0, 0, 1, 1, 0, 0, 0, 0, 0}, {9, 6, 0, 0, 0, 0, 0, 0, 0, 0}} {
		if _, err := Do(c, b); err != api.OK {
			t.Fatalf("Do(.., %s) errs with %d", short(b), err)
		}
	}
}

// few are five transactions of three nodes; each of node 5 and 6 hangs on some of node 4.
func few() []api.Txn {
	return []api.Txn{
		of(4, 1, nil, add(0, "a", "x")),
		of(4, 2, api.Vec{0, 0, 0, 0, 1}, add(0, "a", "y", dot(4, 1, 0))),
		of(5, 1, api.Vec{0, 0, 0, 0, 1}, add(0, "b", "x")),
		of(6, 1, api.Vec{0, 0, 0, 0, 2, 1}, del(0, "a", dot(4, 2, 0)), add(1, "c", "x")),
		of(6, 2, api.Vec{0, 0, 0, 0, 2, 1, 1}),
	}
}

func TestP19_1LearnsWhateverOrder(t *testing.T) {
	l := few()
	end := coreOf(0, 1, learning(l...)).Store
	want := []api.Item{elem("b", "x", dot(5, 1, 0)), elem("c", "x", dot(6, 1, 1))}
	if !slices.Equal(end.Heard, api.Vec{0, 0, 0, 0, 2, 1, 2}) || !slices.Equal(end.Items, want) {
		t.Fatalf("all five leave %s", short(end))
	}
	for _, order := range orders(l) {
		c := coreOf(0, 1)
		_, done, _ := learnOf(c, order)
		checkLearnt(t, c, order, done)
		if got := coreOf(0, 1, learning(order...)); !slices.Equal(got.Store.Heard, end.Heard) || !slices.Equal(got.Store.Items, end.Items) {
			t.Fatalf("in the order %s they leave %s; want %s", short(order), short(got.Store), short(end))
		}
		// One by one, the record of each comes to the same, with what was too early then coming again.
		one := coreOf(0, 1)
		for range l {
			for _, x := range order {
				one, _ = Do(one, learning(x))
			}
		}
		if !slices.Equal(one.Store.Heard, end.Heard) || !slices.Equal(one.Store.Items, end.Items) {
			t.Fatalf("one by one, in the order %s, they leave %s; want %s", short(order), short(one.Store), short(end))
		}
	}
}

func TestP19_1LearnsTheFirstOneThatCanBeEachTime(t *testing.T) {
	l := few()
	c := coreOf(2, 3)
	pick := func(places ...int) (some []api.Txn) {
		for _, i := range places {
			some = append(some, l[i])
		}
		return some
	}
	for _, k := range []struct{ come, learnt []int }{
		{nil, nil},
		{[]int{0}, []int{0}},
		{[]int{1}, nil},
		{[]int{1, 0}, []int{0, 1}},
		{[]int{2, 1, 0}, []int{0, 2, 1}},
		{[]int{1, 2, 0}, []int{0, 1, 2}},
		{[]int{4, 3, 2, 1, 0}, []int{0, 2, 1, 3, 4}},
		{[]int{4, 3, 1, 2, 0}, []int{0, 1, 2, 3, 4}},
		{[]int{3, 0, 4, 1, 2}, []int{0, 1, 2, 3, 4}},
		// Some can't be: what they hang on doesn't come.
		{[]int{4, 3, 2, 0}, []int{0, 2}},
		{[]int{4, 3, 1, 0}, []int{0, 1}},
		{[]int{0, 1, 2, 4}, []int{0, 1, 2}},
		{[]int{4, 3, 2, 1}, nil},
		// Some come twice.
		{[]int{0, 0}, []int{0}},
		{[]int{1, 1, 0, 0}, []int{0, 1}},
		{[]int{2, 0, 2, 0, 1, 2}, []int{0, 2, 1}},
	} {
		checkLearnt(t, c, pick(k.come...), pick(k.learnt...))
	}
}

func TestP19_1LearnsNothingAgain(t *testing.T) {
	l := few()
	for n := range len(l) + 1 {
		c := coreOf(0, 2, learning(l[:n]...))
		checkLearnt(t, c, l[:n], nil)
		checkDo(t, c, learning(l[:n]...), c, api.OK)
		checkDo(t, c, learning(), c, api.OK)
		checkLearnt(t, c, l, l[n:])
		// What was pruned was heard all the same.
		all := coreOf(0, 1, learning(l[:n]...), Prune())
		checkLearnt(t, all, l, l[n:])
		checkDo(t, all, learning(l[:n]...), all, api.OK)
	}
	// Another one of the same name is neither learnt behind the first one nor with it.
	x, next := l[0], chance(7)
	for range 20 {
		other := unlike(x, next)
		checkLearnt(t, coreOf(0, 2, learning(x)), []api.Txn{other}, nil)
		checkLearnt(t, coreOf(0, 2), []api.Txn{x, other}, []api.Txn{x})
		checkLearnt(t, coreOf(0, 2), []api.Txn{other, x}, []api.Txn{other})
		checkLearnt(t, coreOf(0, 2), []api.Txn{l[1], other, x}, []api.Txn{other, l[1]})
	}
}

func TestP19_1EachRecordTwice(t *testing.T) {
	for cores := 1; cores <= 3; cores++ {
		for seed := range uint32(60) {
			next := chance(seed)
			l := history(1+next(9), next, 4, 5, 6)
			c := someCore(l, next)
			for _, r := range [][]byte{learning(someOf(l, next)...), telling(next(c.Cores), someVec(c, next)...), Prune()} {
				once, err := Do(c, r)
				if err != api.OK {
					t.Fatalf("Do(%s, %s) errs with %d", short(c), short(r), err)
				}
				// A list with two of one name that comes again may only bring what it brought.
				checkDo(t, once, r, once, api.OK)
			}
		}
	}
}

func TestP19_1LearnsOfEachNode(t *testing.T) {
	for node := range 8 {
		for cores := 1; cores <= 3; cores++ {
			for me := range cores {
				l := run(node, 1, 4, "a")
				checkLearnt(t, coreOf(me, cores), mixed(l, chance(uint32(node))), l)
				checkLearnt(t, coreOf(me, cores, learning(l[:2]...)), l, l[2:])
				checkLearnt(t, coreOf(me, cores, learning(l[:2]...)), l[3:], nil)
			}
		}
	}
}

// fullCore is the only core, with so many transactions of node 4 in its past.
func fullCore(n int) api.Core { return coreOf(0, 1, learning(run(4, 1, n, "a")...)) }

func TestP19_1LearnsNoMoreThanAPastHolds(t *testing.T) {
	l := run(5, 1, 3, "b")
	for _, room := range []int{0, 1, 2, 3} {
		c := fullCore(maxTxns - room)
		var want []byte
		if room > 0 {
			want = learning(l[:room]...)
		}
		checkRecord(t, c, 7, bytesOf(sending(l...)), want, room > 0)
		checkRecord(t, c, 7, bytesOf(sending(l[2], l[0], l[1])), want, room > 0)
		got, err := Do(c, learning(l...))
		if err != api.OK || len(got.Past.List) != min(maxTxns, maxTxns-room+3) || !sameTxns(got.Past.List[maxTxns-room:], l[:room]) || !slices.Equal(got.Store.Heard, vec.Trim(api.Vec{0, 0, 0, 0, maxTxns - room, room})) {
			t.Fatalf("with room for %d: %d in the past, %s heard", room, len(got.Past.List), short(got.Store.Heard))
		}
		if len(got.Store.Items) != maxTxns {
			t.Fatalf("with room for %d the store holds %d items", room, len(got.Store.Items))
		}
		// Those that didn't fit can be learnt when the past was pruned.
		pruned, err := Do(got, Prune())
		if err != api.OK || len(pruned.Past.List) != 0 {
			t.Fatalf("pruned %s, %d", short(pruned.Past), err)
		}
		checkLearnt(t, pruned, l, l[room:])
	}
}

func TestP19_1LearnsAsMuchAsAPastHoldsAtOnce(t *testing.T) {
	l := run(4, 1, maxTxns, "a")
	slices.Reverse(l)
	c, err := Do(coreOf(0, 1), learning(l...))
	if err != api.OK || len(c.Past.List) != maxTxns || !slices.Equal(c.Store.Heard, said(4, maxTxns)) || !past.Sound(c.Past) || !store.Sound(c.Store) {
		t.Fatalf("%d of %d transactions in the worst order were learnt, error %d", len(c.Past.List), maxTxns, err)
	}
	// One more is no message any more, so it is no record.
	b := slices.Concat([]byte{0, 6, 0, 0, 0, 0, 0, 0, 0, 0x81, 0x20}, bytes.Repeat([]byte{4, 1, 0, 0}, maxTxns+1))
	checkRefused(t, coreOf(0, 1), b)
}

func TestP19_1LearningChangesNothingElse(t *testing.T) {
	c := coreOf(1, 3, learning(few()[:2]...), telling(0, 0, 0, 0, 0, 1), telling(2, 3))
	got, err := Do(c, learning(few()...))
	if err != api.OK || got.Me != 1 || got.Cores != 3 || !slices.EqualFunc(got.Known, c.Known, slices.Equal[api.Vec]) || len(got.Past.Floor) > 0 {
		t.Fatalf("learnt: %s, %d", short(got), err)
	}
}

func TestP19_1HearsWhatEachCoreHeard(t *testing.T) {
	vecs := []api.Vec{nil, {1}, {0, 2}, {1, 0, 5}, {0, 2, 4}, {1, 2, 3, 4, 5, 6, 7, 8}, slices.Repeat(api.Vec{maxSeq}, 8)}
	for cores := 1; cores <= 3; cores++ {
		for me := range cores {
			for j := range cores {
				for _, v := range vecs {
					for _, w := range vecs {
						c := coreOf(me, cores, learning(few()...), telling((j+1)%cores, 7), telling(j, v...))
						want := copyOf(c)
						want.Known[j] = vec.Join(c.Known[j], w)
						checkDo(t, c, telling(j, w...), want, api.OK)
					}
				}
			}
		}
	}
	for cores := 1; cores <= 3; cores++ {
		for j := cores; j < 12; j++ {
			checkRefused(t, coreOf(0, cores), telling(j, 1))
			checkRefused(t, coreOf(cores-1, cores), telling(j))
		}
	}
}

func TestP19_1PrunesWhatAllHaveHeard(t *testing.T) {
	l := few()
	all := api.Vec{0, 0, 0, 0, 2, 1, 2}
	for _, k := range []struct {
		cores, me int
		records   [][]byte
		floor     api.Vec
		left      []api.Txn
	}{
		// The only core need not wait for another one, whatever it is known to have heard itself.
		{1, 0, nil, all, nil},
		{1, 0, [][]byte{telling(0, 0, 0, 0, 0, 1)}, all, nil},
		{1, 0, [][]byte{telling(0, 9, 9, 9, 9, 9, 9, 9, 9)}, all, nil},
		// One of two.
		{2, 0, nil, nil, l},
		{2, 0, [][]byte{telling(1, all...)}, all, nil},
		{2, 1, [][]byte{telling(0, all...)}, all, nil},
		{2, 1, [][]byte{telling(1, all...)}, nil, l},
		{2, 0, [][]byte{telling(0, all...)}, nil, l},
		{2, 0, [][]byte{telling(1, 0, 0, 0, 0, 2, 1)}, api.Vec{0, 0, 0, 0, 2, 1}, l[3:]},
		{2, 1, [][]byte{telling(0, 0, 0, 0, 0, 1, 1)}, api.Vec{0, 0, 0, 0, 1, 1}, []api.Txn{l[1], l[3], l[4]}},
		{2, 1, [][]byte{telling(1, all...), telling(0, 0, 0, 0, 0, 1)}, api.Vec{0, 0, 0, 0, 1}, l[1:]},
		// Who has heard more than this one doesn't let it forget what it never had.
		{2, 0, [][]byte{telling(1, 9, 9, 9, 9, 9, 9, 9, 9)}, all, nil},
		{2, 0, [][]byte{telling(1, 9, 9, 9, 9, 1)}, api.Vec{0, 0, 0, 0, 1}, l[1:]},
		// One of three, of which one has heard nothing, or another thing.
		{3, 0, [][]byte{telling(1, all...)}, nil, l},
		{3, 0, [][]byte{telling(2, all...)}, nil, l},
		{3, 1, [][]byte{telling(0, all...), telling(1, all...)}, nil, l},
		{3, 2, [][]byte{telling(0, all...), telling(2, all...)}, nil, l},
		{3, 0, [][]byte{telling(1, all...), telling(2, all...)}, all, nil},
		{3, 1, [][]byte{telling(0, all...), telling(2, all...)}, all, nil},
		{3, 2, [][]byte{telling(0, all...), telling(1, all...)}, all, nil},
		{3, 2, [][]byte{telling(0, 0, 0, 0, 0, 2), telling(1, 0, 0, 0, 0, 1, 1)}, api.Vec{0, 0, 0, 0, 1}, l[1:]},
		{3, 1, [][]byte{telling(0, 0, 0, 0, 0, 2, 1), telling(2, 0, 0, 0, 0, 2)}, api.Vec{0, 0, 0, 0, 2}, l[2:]},
		{3, 1, [][]byte{telling(0, 0, 0, 0, 0, 2), telling(2, 0, 0, 0, 0, 0, 1)}, nil, l},
		{3, 1, [][]byte{telling(0, 0, 0, 0, 0, 2), telling(2, 1, 1, 1)}, nil, l},
		{3, 1, [][]byte{telling(0, 0, 0, 0, 0, 1), telling(0, 0, 0, 0, 0, 2), telling(2, all...)}, api.Vec{0, 0, 0, 0, 2}, l[2:]},
	} {
		c := coreOf(k.me, k.cores, append([][]byte{learning(l...)}, k.records...)...)
		want := copyOf(c)
		want.Past = api.Past{Floor: k.floor, List: k.left}
		checkDo(t, c, Prune(), want, api.OK)
		checkDo(t, want, Prune(), want, api.OK)
		checkDo(t, c, rec(9, filling(l...)), api.Core{}, api.ErrForm)
	}
}

func TestP19_1TheFloorOnlyRises(t *testing.T) {
	l := run(4, 1, 9, "a")
	c := coreOf(0, 2)
	for n, x := range l {
		var err api.Errno
		for _, r := range [][]byte{learning(x), telling(1, said(4, n)...), Prune(), telling(1), telling(1, 5), Prune()} {
			if c, err = Do(c, r); err != api.OK {
				t.Fatalf("Do(.., %s) errs with %d", short(r), err)
			}
		}
		if !slices.Equal(c.Past.Floor, said(4, n)) || !sameTxns(c.Past.List, l[n:n+1]) || len(c.Store.Items) != n+1 {
			t.Fatalf("pruned to %d: %s", n, short(c))
		}
	}
}

func TestP19_1DoOfSome(t *testing.T) {
	counts := map[string]int{}
	for seed := range uint32(6000) {
		next := chance(seed)
		l := history(1+next(12), next, 0, 1, 3, 4, 5, 7)
		c := someCore(l, next)
		r := oneOf(next,
			learning(someOf(l, next)...), telling(next(4), someVec(c, next)...), Prune(),
			rec(oneOf(next, numbers()...), oneOf(next, someMsg(c, l, next), filling(), asking(someVec(c, next)...))),
		)
		if next(8) == 0 {
			r = blotted(r, next)
		}
		want, err := doOf(c, r)
		checkDo(t, c, r, want, err)
		counts[fmt.Sprint(err)]++
		switch {
		case err == api.OK && len(want.Past.List) > len(c.Past.List):
			counts["learns"]++
		case err == api.OK && !slices.Equal(want.Past.Floor, c.Past.Floor):
			counts["prunes"]++
		case err == api.OK && !slices.EqualFunc(want.Known, c.Known, slices.Equal[api.Vec]):
			counts["hears"]++
		}
	}
	for _, what := range []string{"0", "2", "learns", "hears", "prunes"} {
		if counts[what] < 50 {
			t.Fatalf("too few of them: %v", counts)
		}
	}
}

// about are messages that are about a core that has learnt few: each would bring, or ask for, something.
func about() []api.Msg {
	l := few()
	t := of(4, 3, said(4, 2), add(0, "a", "z"))
	return []api.Msg{
		sending(t), sending(l[4], t, l[0]), filling(t), filling(l[4], t, l[0]), asking(), asking(0, 0, 0, 0, 1), asking(9),
		pulling(3, false, nil, under("a"), under("a")), pulling(3, true, nil, under("a"), under("a")), pulling(3, false, nil, under("a"), under("a", "b")),
		pushing(3, api.Vec{1}, under("a"), elem("a", "x", dot(0, 1, 0))), leading(3, said(4, 2), said(4, 3), under("a"), t),
	}
}

func TestP19_2And3FromEachNode(t *testing.T) {
	for cores := 1; cores <= 3; cores++ {
		for me := range cores {
			c := coreOf(me, cores, learning(few()...))
			for _, from := range ints() {
				for _, m := range slices.Concat(about(), every()) {
					record, reply := checkWords(t, c, from, bytesOf(m))
					isCore, isEdge := 0 <= from && from < cores && from != me, cores <= from && from < 8
					mayLearn := isEdge && m.Kind == 1 || isCore && (m.Kind == 6 || m.Kind == 5)
					mayReply := isEdge && m.Kind == 2 || isCore && m.Kind == 5
					if record != nil && !mayLearn || reply != nil && !mayReply {
						t.Fatalf("%d of %d cores: of %s from %d it learns %s and replies %s", me, cores, short(m), from, short(record), short(reply))
					}
				}
				// Those of about bring something, where one may learn of it, and are answered, where one may.
				for i, m := range about() {
					record, reply := checkWords(t, c, from, bytesOf(m))
					isCore, isEdge := 0 <= from && from < cores && from != me, cores <= from && from < 8
					if (record != nil) != (isEdge && i < 2 || isCore && (i == 2 || i == 3 || i == 5 || i == 6)) {
						t.Fatalf("%d of %d cores: of %s from %d it learns %s", me, cores, short(m), from, short(record))
					}
					if (reply != nil) != (isCore && i >= 4 && i < 7 || isEdge && i >= 7 && i < 10) {
						t.Fatalf("%d of %d cores: to %s from %d it replies %s", me, cores, short(m), from, short(reply))
					}
				}
			}
		}
	}
}

func TestP19_2And3OfBytesThatAreNoMessage(t *testing.T) {
	c := coreOf(1, 3, learning(few()...))
	for from := -1; from <= 8; from++ {
		checkNoRecord(t, c, from, nil)
		checkNoReply(t, c, from, nil)
		for _, m := range about() {
			b := bytesOf(m)
			for n := range len(b) {
				checkNoRecord(t, c, from, b[:n])
				checkNoReply(t, c, from, b[:n])
			}
			for _, more := range [][]byte{{0}, {1}, b} {
				checkNoRecord(t, c, from, slices.Concat(b, more))
				checkNoReply(t, c, from, slices.Concat(b, more))
			}
			// A record is no message.
			for _, number := range []byte{0, 1, 2, 3, 9} {
				checkNoRecord(t, c, from, slices.Concat([]byte{number}, b))
				checkNoReply(t, c, from, slices.Concat([]byte{number}, b))
			}
		}
	}
}

func TestP19_2OfASendAndAFill(t *testing.T) {
	l := few()
	for n := range len(l) + 1 {
		c := coreOf(1, 2, learning(l[:n]...))
		for _, order := range orders(l) {
			_, done, _ := learnOf(c, order)
			var want []byte
			if n < len(l) {
				want = learning(done...)
			}
			checkRecord(t, c, 4, bytesOf(sending(order...)), want, n < len(l))
			checkRecord(t, c, 0, bytesOf(filling(order...)), want, n < len(l))
			for _, wrong := range []int{-1, 1, 8} {
				checkNoRecord(t, c, wrong, bytesOf(sending(order...)))
				checkNoRecord(t, c, wrong, bytesOf(filling(order...)))
			}
			checkNoRecord(t, c, 0, bytesOf(sending(order...)))
			checkNoRecord(t, c, 4, bytesOf(filling(order...)))
		}
	}
	// Of which nothing would be done.
	c := coreOf(1, 2, learning(l[:2]...))
	for _, none := range [][]api.Txn{nil, l[:1], l[:2], {l[3]}, {l[4], l[3], l[0]}, {of(4, 4, said(4, 3))}, {of(7, 1, api.Vec{1})}} {
		checkNoRecord(t, c, 2, bytesOf(sending(none...)))
		checkNoRecord(t, c, 0, bytesOf(filling(none...)))
	}
}

func TestP19_2OfAnAsk(t *testing.T) {
	vecs := []api.Vec{nil, {1}, {2}, {0, 1}, {1, 1}, {0, 0, 0, 0, 0, 0, 0, 1}, {maxSeq}, slices.Repeat(api.Vec{maxSeq}, 8)}
	for _, cores := range []int{2, 3} {
		for me := range cores {
			for from := range cores {
				for _, v := range vecs {
					for _, w := range vecs {
						c := coreOf(me, cores, telling(from, v...), telling((from+1)%cores, 5, 5, 5))
						b := bytesOf(asking(w...))
						if from == me || vec.Within(w, v) {
							checkNoRecord(t, c, from, b)
							continue
						}
						checkRecord(t, c, from, b, slices.Concat([]byte{byte(1 + from)}, b), true)
						behind, err := Do(c, slices.Concat([]byte{byte(1 + from)}, b))
						if err != api.OK || !slices.Equal(behind.Known[from], vec.Join(v, w)) {
							t.Fatalf("Known is %s; want Join of %v and %v at %d", short(behind.Known), v, w, from)
						}
						checkNoRecord(t, behind, from, b)
					}
				}
			}
		}
	}
}

func TestP19_2WhatAnotherCoreHeardIsItsOwn(t *testing.T) {
	// What the core itself has heard, or a third one, says nothing of this one.
	c := coreOf(0, 3, learning(few()...), telling(2, 0, 0, 0, 0, 2, 1, 2), telling(0, 0, 0, 0, 0, 2, 1, 2))
	b := bytesOf(asking(0, 0, 0, 0, 2, 1, 2))
	checkRecord(t, c, 1, b, slices.Concat([]byte{2}, b), true)
	checkNoRecord(t, c, 2, b)
}

func TestP19_3OfAnAsk(t *testing.T) {
	l := few()
	all := api.Vec{0, 0, 0, 0, 2, 1, 2}
	c := coreOf(1, 3, learning(l...))
	checkFill := func(c api.Core, v api.Vec, want ...api.Txn) {
		t.Helper()
		for _, from := range []int{0, 2} {
			checkReply(t, c, from, bytesOf(asking(v...)), bytesOf(filling(want...)), true)
		}
		for _, from := range []int{-1, 1, 3, 7, 8} {
			checkNoReply(t, c, from, bytesOf(asking(v...)))
		}
	}
	checkNone := func(c api.Core, v api.Vec) {
		t.Helper()
		for from := -1; from <= 8; from++ {
			checkNoReply(t, c, from, bytesOf(asking(v...)))
		}
	}
	checkFill(c, nil, l...)
	checkFill(c, api.Vec{0, 0, 0, 0, 1}, l[1:]...)
	checkFill(c, api.Vec{0, 0, 0, 0, 2}, l[2:]...)
	checkFill(c, api.Vec{0, 0, 0, 0, 1, 1}, l[1], l[3], l[4])
	checkFill(c, api.Vec{0, 0, 0, 0, 2, 1}, l[3:]...)
	checkFill(c, api.Vec{9, 9, 9, 9, 0, 9, 9, 9}, l[:2]...)
	// Who has heard all, or more, is told nothing.
	checkNone(c, all)
	checkNone(c, api.Vec{1, 0, 0, 0, 2, 1, 2})
	checkNone(c, slices.Repeat(api.Vec{maxSeq}, 8))
	// Who has heard less than was pruned can't be told.
	known := api.Vec{0, 0, 0, 0, 2, 1}
	c = coreOf(1, 3, learning(l...), telling(0, known...), telling(2, known...), Prune())
	checkFill(c, known, l[3:]...)
	checkFill(c, api.Vec{5, 0, 0, 0, 2, 1}, l[3:]...)
	checkFill(c, api.Vec{0, 0, 0, 0, 2, 1, 1}, l[4])
	checkNone(c, nil)
	checkNone(c, api.Vec{0, 0, 0, 0, 1})
	checkNone(c, api.Vec{0, 0, 0, 0, 2})
	checkNone(c, api.Vec{0, 0, 0, 0, 1, 1, 2})
	checkNone(c, all)
}

func TestP19_3TheFillIsOfAllZones(t *testing.T) {
	l := few()
	c := coreOf(0, 2, learning(l...))
	b, ok := Reply(c, 1, bytesOf(asking()))
	if m, err := msg.Read(b); !ok || err != api.OK || !sameTxns(m.Txns, l) {
		t.Fatalf("the Fill has %s", short(m))
	}
	other := coreOf(1, 2)
	record, ok := Record(other, 0, b)
	got, err := Do(other, record)
	if !ok || err != api.OK || !slices.Equal(got.Store.Heard, c.Store.Heard) || !slices.Equal(got.Store.Items, c.Store.Items) {
		t.Fatalf("the other core holds %s, error %d; want %s", short(got), err, short(c))
	}
}

// pulled is a core that has learnt few, and of these has pruned the first two.
func pulled() api.Core {
	v := []int{0, 0, 0, 0, 2}
	return coreOf(0, 2, learning(few()...), telling(1, v...), Prune())
}

func TestP19_3OfAPull(t *testing.T) {
	l := few()
	c := pulled()
	all := api.Vec{0, 0, 0, 0, 2, 1, 2}
	floor, later := api.Vec{0, 0, 0, 0, 2}, api.Vec{0, 0, 0, 0, 2, 1}
	x, y := elem("b", "x", dot(5, 1, 0)), elem("c", "x", dot(6, 1, 1))
	for _, k := range []struct {
		pull api.Msg
		want api.Msg
	}{
		// What is new under the zone; of the others there is the transaction alone.
		{pulling(0, false, floor, under("b"), under("b")), leading(0, floor, all, under("b"), l[2], of(6, 1, l[3].Deps), l[4])},
		{pulling(7, false, floor, under("a"), under("a")), leading(7, floor, all, under("a"), of(5, 1, l[2].Deps), of(6, 1, l[3].Deps, l[3].Effs[0]), l[4])},
		{pulling(maxSeq, false, floor, under("c"), under("c")), leading(maxSeq, floor, all, under("c"), of(5, 1, l[2].Deps), of(6, 1, l[3].Deps, l[3].Effs[1]), l[4])},
		{pulling(1, false, floor, under(""), under("")), leading(1, floor, all, under(""), l[2:]...)},
		{pulling(1, false, floor, under("a", "c"), under("a", "c")), leading(1, floor, all, under("a", "c"), of(5, 1, l[2].Deps), l[3], l[4])},
		{pulling(1, false, floor, nil, nil), leading(1, floor, all, nil, of(5, 1, l[2].Deps), of(6, 1, l[3].Deps), l[4])},
		{pulling(1, false, later, under("b"), under("b")), leading(1, later, all, under("b"), of(6, 1, l[3].Deps), l[4])},
		{pulling(1, false, all, under("b"), under("b")), leading(1, all, all, under("b"))},
		// All anew: it was asked for, or the zones are unlike, or some of what is lacking was pruned.
		{pulling(0, true, floor, under("b"), under("b")), pushing(0, all, under("b"), x)},
		{pulling(5, true, all, under("b"), under("b")), pushing(5, all, under("b"), x)},
		{pulling(5, true, nil, under("b"), under("b")), pushing(5, all, under("b"), x)},
		{pulling(5, true, nil, nil, under("a")), pushing(5, all, under("a"))},
		{pulling(5, false, floor, nil, under("b")), pushing(5, all, under("b"), x)},
		{pulling(5, false, floor, under("b"), nil), pushing(5, all, nil)},
		{pulling(5, false, floor, under("b"), under("b", "c")), pushing(5, all, under("b", "c"), x, y)},
		{pulling(5, false, floor, under("b", "c"), under("c")), pushing(5, all, under("c"), y)},
		{pulling(5, false, floor, under("c"), under("b")), pushing(5, all, under("b"), x)},
		{pulling(5, false, floor, under("b"), under("")), pushing(5, all, under(""), x, y)},
		{pulling(5, false, all, under("b"), under("")), pushing(5, all, under(""), x, y)},
		{pulling(5, false, nil, under("b"), under("b")), pushing(5, all, under("b"), x)},
		{pulling(maxSeq, false, api.Vec{0, 0, 0, 0, 1}, under("c"), under("c")), pushing(maxSeq, all, under("c"), y)},
		{pulling(5, false, api.Vec{0, 0, 0, 0, 1, 1, 2}, under("c"), under("c")), pushing(5, all, under("c"), y)},
		{pulling(5, false, nil, nil, nil), pushing(5, all, nil)},
	} {
		b := bytesOf(k.pull)
		for from := 2; from <= 7; from++ {
			checkReply(t, c, from, b, bytesOf(k.want), true)
			checkNoRecord(t, c, from, b)
		}
		for _, from := range []int{math.MinInt, -1, 0, 1, 8, math.MaxInt} {
			checkNoReply(t, c, from, b)
		}
	}
	// Who has heard more than the core gets nothing, not even all anew.
	for _, v := range []api.Vec{{1}, {0, 0, 0, 0, 3}, {0, 0, 0, 0, 2, 2}, {0, 0, 0, 0, 0, 0, 3}, {0, 0, 0, 0, 2, 1, 2, 1}, {0, 0, 0, 0, 3, 1, 2}} {
		for _, whole := range []bool{false, true} {
			checkNoReply(t, c, 2, bytesOf(pulling(5, whole, v, under("b"), under("b"))))
			checkNoReply(t, c, 2, bytesOf(pulling(5, whole, v, nil, under("b"))))
		}
	}
}

func TestP19_3OfAPullOfNotOneWholeHistory(t *testing.T) {
	// What an edge has heard need not have come with all that it hangs on; it is led on all the same.
	l := few()
	c := coreOf(0, 1, learning(l...))
	all := api.Vec{0, 0, 0, 0, 2, 1, 2}
	for _, v := range []api.Vec{{0, 0, 0, 0, 0, 1}, {0, 0, 0, 0, 1, 0, 1}, {0, 0, 0, 0, 0, 0, 2}, {0, 0, 0, 0, 2, 0, 2}} {
		since, err := past.Since(c.Past, v)
		if err != api.OK {
			t.Fatal(err)
		}
		checkReply(t, c, 1, bytesOf(pulling(1, false, v, under(""), under(""))), bytesOf(leading(1, v, all, under(""), since...)), true)
	}
}

func TestP19_3TheDeltaThatIsNotFormed(t *testing.T) {
	// Where the past doesn't lead to what the store heard there is the Push. No core that New and Do made is like that.
	c := coreOf(0, 1, learning(few()...))
	pull := bytesOf(pulling(4, false, nil, under("b"), under("b")))
	x := elem("b", "x", dot(5, 1, 0))
	for _, heard := range []api.Vec{{0, 0, 0, 0, 3, 1, 2}, {1, 0, 0, 0, 2, 1, 2}, {0, 0, 0, 0, 2, 1}} {
		c.Store.Heard = heard
		checkReply(t, c, 1, pull, bytesOf(pushing(4, heard, under("b"), x)), true)
	}
}

func TestP19_3ThePushThatIsNotFormed(t *testing.T) {
	var l []api.Txn
	for seq := 1; seq <= maxTxns; seq++ {
		x := of(4, seq, said(4, seq-1))
		for at := range 8 {
			x.Effs = append(x.Effs, add(at, "a", "x"))
		}
		l = append(l, x)
	}
	c := coreOf(0, 1, learning(l...), Prune())
	if len(c.Store.Items) != maxItems {
		t.Fatalf("the store holds %d items", len(c.Store.Items))
	}
	whole := bytesOf(pulling(4, true, nil, nil, under("a")))
	checkReply(t, c, 1, whole, bytesOf(pushing(4, said(4, maxTxns), under("a"), c.Store.Items...)), true)
	// More than a message holds can't be told, but what is new can, and what stands under another zone.
	more := of(4, maxTxns+1, said(4, maxTxns), add(0, "a", "x"))
	c, err := Do(c, learning(more))
	if err != api.OK || len(c.Store.Items) != maxItems+1 {
		t.Fatalf("the store holds %d items, error %d", len(c.Store.Items), err)
	}
	checkNoReply(t, c, 1, whole)
	checkNoReply(t, c, 1, bytesOf(pulling(4, false, nil, under("a"), under("a"))))
	checkReply(t, c, 1, bytesOf(pulling(4, false, said(4, maxTxns), under("a"), under("a"))), bytesOf(leading(4, said(4, maxTxns), said(4, maxTxns+1), under("a"), more)), true)
	checkReply(t, c, 1, bytesOf(pulling(4, true, nil, nil, under("b"))), bytesOf(pushing(4, said(4, maxTxns+1), under("b"))), true)
}

func TestP19_3OfAFullPast(t *testing.T) {
	l := run(4, 1, maxTxns, "a")
	c := coreOf(0, 2, learning(l...))
	checkReply(t, c, 1, bytesOf(asking()), bytesOf(filling(l...)), true)
	checkReply(t, c, 2, bytesOf(pulling(1, false, nil, under("a"), under("a"))), bytesOf(leading(1, nil, said(4, maxTxns), under("a"), l...)), true)
}

func TestP19_2And3OfSome(t *testing.T) {
	counts := map[int]int{}
	for seed := range uint32(16000) {
		next := chance(seed)
		l := history(1+next(10), next, 0, 1, 3, 4, 5, 7)
		c := someCore(l, next)
		b := bytesOf(someMsg(c, l, next))
		if next(10) == 0 {
			b = blotted(b, next)
		}
		record, reply := checkWords(t, c, oneOf(next, next(10)-1, next(c.Cores)), b)
		if record != nil {
			counts[int(record[0])]++
		}
		if reply != nil {
			counts[100+int(reply[0])]++
		}
	}
	for _, number := range []int{0, 1, 2, 3, 100 + api.Push, 100 + api.Delta, 100 + api.Fill} {
		if counts[number] < 50 {
			t.Fatalf("too few of them: %v", counts)
		}
	}
}

func TestP19_4Ask(t *testing.T) {
	l := few()
	c := coreOf(1, 3)
	if !bytes.Equal(Ask(c), []byte{5, 0, 0, 0, 0, 0, 0, 0, 0}) {
		t.Fatalf("a new core asks with %s", short(Ask(c)))
	}
	heard := []api.Vec{{0, 0, 0, 0, 1}, {0, 0, 0, 0, 2}, {0, 0, 0, 0, 2, 1}, {0, 0, 0, 0, 2, 1, 1}, {0, 0, 0, 0, 2, 1, 2}}
	for i, x := range l {
		c, _ = Do(c, learning(x))
		// What others are known to have heard, and what is kept, is not asked with.
		told, _ := Do(c, telling(i%3, 1, 2, 3))
		told, _ = Do(told, telling((i+1)%3, heard[i]...))
		told, _ = Do(told, telling((i+2)%3, heard[i]...))
		told, _ = Do(told, Prune())
		for _, c := range []api.Core{c, told} {
			if !bytes.Equal(Ask(c), bytesOf(asking(heard[i]...))) {
				t.Fatalf("Ask(%s) = %s", short(c), short(Ask(c)))
			}
		}
	}
	if got := Ask(coreOf(0, 1, learning(run(0, 1, 300, "a")...))); !bytes.Equal(got, []byte{5, 0, 0, 1, 0xac, 2, 0, 0, 0, 0, 0}) {
		t.Fatalf("who has heard 300 asks with %s", short(got))
	}
}

func TestP19_4Prune(t *testing.T) {
	want := []byte{9, 6, 0, 0, 0, 0, 0, 0, 0, 0}
	one := Prune()
	if !bytes.Equal(one, want) {
		t.Fatalf("Prune() = %s", short(one))
	}
	clear(one[:cap(one)])
	if two := Prune(); !bytes.Equal(two, want) {
		t.Fatalf("Prune() = %s behind one that was changed", short(two))
	}
}
