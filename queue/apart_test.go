package queue

import (
	"slices"
	"testing"

	"buttery/api"
)

// spare is a list that has more behind it as its spare room.
func spare[T any](l []T, more ...T) []T { return slices.Concat(l, more)[:len(l)] }

// spareTxns is a list of transactions, with more behind each of the lists in it as spare room.
func spareTxns(l []api.Txn) []api.Txn {
	laid := spare(l, of(0, 1), rich(1, 1))
	for i, x := range laid {
		laid[i].Deps = spare(x.Deps, 5, 6, 7)
		laid[i].Effs = spare(x.Effs, put(7, "s", "s"), put(0, "s", "s"))
		for j, e := range laid[i].Effs {
			laid[i].Effs[j].Drops = spare(e.Drops, dot(5, 5, 5), api.Dot{})
		}
	}
	return laid
}

// whole is a copy of a list, its spare room as a part of it; deep is such a copy with all lists in it.
func whole[T any](l []T) []T { return slices.Clone(l[:cap(l)]) }

func deep(l []api.Txn) []api.Txn {
	l = whole(l)
	for i, x := range l {
		l[i].Deps, l[i].Effs = whole(x.Deps), whole(x.Effs)
		for j, e := range l[i].Effs {
			l[i].Effs[j].Drops = whole(e.Drops)
		}
	}
	return l
}

// turn changes all of a list, spare room and all; turnTxn and turnTxns all lists within it, too.
func turn[T any](l []T, to T) {
	l = l[:cap(l)]
	for i := range l {
		l[i] = to
	}
}

func turnTxn(x api.Txn) {
	turn(x.Deps, 77)
	for _, e := range x.Effs[:cap(x.Effs)] {
		turn(e.Drops, dot(9, 9, 9))
	}
	turn(x.Effs, api.Eff{Key: "turned"})
}

func turnTxns(l []api.Txn) {
	for _, x := range l[:cap(l)] {
		turnTxn(x)
	}
	turn(l, of(77, 77))
}

// handed is what calls are handed, with spare room: a queue, a transaction that is pushed (a list of that one) and a vector.
type handed struct {
	q api.Queue
	l []api.Txn
	v api.Vec
}

func hand(q api.Queue, x api.Txn, v api.Vec) handed {
	return handed{queue(q.Most, spareTxns(q.List)...), spareTxns(txns(x)), spare(v, 9, 0, -9)}
}

// turn changes all of it.
func (h handed) turn() {
	turnTxns(h.q.List)
	turnTxns(h.l)
	turn(h.v, 44)
}

// checkApart does something with answers, and tells whether that, or the call, changed what was handed in.
func (h handed) checkApart(t *testing.T, what string, do func()) {
	t.Helper()
	list, l, v := deep(h.q.List), deep(h.l), whole(h.v)
	do()
	if !sameTxns(deep(h.q.List), list) || !sameTxns(deep(h.l), l) || !slices.Equal(whole(h.v), v) {
		t.Fatalf("%s of %s, %s, %s: what was handed in, or its spare room, was changed, or is shared", what, short(h.q), short(l), short(v))
	}
}

// checkHanded asks that no call changes or keeps what it is handed: a queue, a transaction, a vector.
func checkHanded(t *testing.T, q api.Queue, x api.Txn, v api.Vec) {
	t.Helper()
	h := hand(q, x, v)
	h.checkApart(t, "Push", func() {
		one, _ := Push(h.q, h.l[0])
		turnTxns(one.List)
	})
	h.checkApart(t, "Heard", func() { turnTxns(Heard(h.q, h.v).List) })
	h.checkApart(t, "Last", func() {
		one, _ := Last(h.q)
		turnTxn(one)
	})
	pushed, err := Push(h.q, h.l[0])
	heard := Heard(h.q, h.v)
	last, there := Last(h.q)
	h.turn()
	if want, wantErr := pushOf(q, x); !sameQueue(pushed, want) || err != wantErr {
		t.Fatalf("Push(%s, %s) shares: %s, %d; want %s, %d", short(q), short(x), short(pushed), err, short(want), wantErr)
	}
	if want := heardOf(q, v); !sameQueue(heard, want) {
		t.Fatalf("Heard(%s, %s) shares: %s; want %s", short(q), short(v), short(heard), short(want))
	}
	if want, wantThere := lastOf(q); !same(last, want) || there != wantThere {
		t.Fatalf("Last(%s) shares: %s, %t; want %s, %t", short(q), short(last), there, short(want), wantThere)
	}
}

func TestP20_1NothingIsChangedOrShared(t *testing.T) {
	for n := range 4 {
		for most := -1; most < 6; most++ {
			q := queue(most)
			for seq := range n {
				q.List = append(q.List, rich(2, 3+seq))
			}
			for _, x := range slices.Concat(unformed(2, 3+n), txns(rich(2, 3+n), of(2, 3+n), rich(2, 4+n), rich(3, 3+n))) {
				for _, v := range []api.Vec{nil, {}, {0, 0, 3}, {0, 0, 4, -1}, {0, 0, 9}, {9, 9}} {
					checkHanded(t, q, x, v)
				}
			}
		}
	}
}

func TestP20_2NothingIsChangedOrShared(t *testing.T) {
	for seed := range uint32(2000) {
		next := chance(seed)
		q := someQueue(next)
		last, _ := lastOf(q)
		x := api.Txn{Node: last.Node, Seq: last.Seq + 1, Deps: deps(last.Node, last.Seq+1, 3), Effs: rich(0, 1).Effs[1:3]}
		checkHanded(t, q, x, someVector(next))
		checkHanded(t, q, oneOf(next, odd()...), someVector(next))
	}
}

func TestP20_2ListsOfOneAnswerAreApart(t *testing.T) {
	// All share one Deps, one list of effects and one of Drops.
	some := rich(1, 4)
	l := txns(some, some, some)
	next := some
	next.Seq = 5
	next.Deps = deps(1, 5, 3)
	next.Effs = some.Effs[:3]
	answers := map[string]func() api.Queue{
		"Push": func() api.Queue {
			one, _ := Push(queue(9, l...), next)
			return one
		},
		"Heard": func() api.Queue { return Heard(queue(9, l...), api.Vec{9}) },
	}
	for name, answer := range answers {
		want := answer().List
		for i := range want {
			one := answer().List
			turnTxns(one[i : i+1 : i+1])
			for j, x := range one {
				if j != i && !same(x, want[j]) {
					t.Fatalf("lists of an answer of %s share: when %d is turned, %d is %s", name, i, j, short(x))
				}
			}
		}
	}
	drops := []api.Dot{dot(6, 1, 0), dot(6, 3, 1)}
	alike := api.Txn{Node: 1, Seq: 4, Deps: deps(1, 4, 3), Effs: []api.Eff{put(0, "a", "x", drops...), put(1, "b", "x", drops...), put(2, "c", "x", drops[:1]...)}}
	pushed, _ := Push(queue(1), alike)
	last, _ := Last(queue(1, alike))
	for _, x := range txns(pushed.List[0], Heard(queue(1, alike), nil).List[0], last) {
		turn(x.Effs[0].Drops, dot(9, 9, 9))
		_ = append(x.Effs[2].Drops, dot(8, 8, 8))
		if !slices.Equal(x.Effs[1].Drops, drops) || !slices.Equal(x.Effs[2].Drops, drops[:1]) {
			t.Fatalf("the Drops of one answer share: %s", short(x))
		}
	}
}

func TestP20_1WhoGoesOnFromOneQueueChangesNoOther(t *testing.T) {
	// Two that push into one queue would meet in its spare room.
	q, _ := New(maxQueue)
	for seq := 1; seq <= maxQueue; seq++ {
		one, _ := Push(q, of(3, seq))
		kept := deep(one.List)
		two, _ := Push(q, rich(3, seq))
		Heard(one, api.Vec{0, 0, 0, seq})
		if !sameTxns(deep(one.List), kept) || !sameQueue(one, queue(maxQueue, append(slices.Clone(q.List), of(3, seq))...)) {
			t.Fatalf("a queue, behind another Push into the one ahead of it: %s", short(one))
		}
		q = two
	}
}
