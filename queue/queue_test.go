package queue

import (
	"math"
	"slices"
	"testing"

	"buttery/api"
)

func TestP20_1TheExample(t *testing.T) {
	q, err := New(1)
	if err != api.OK {
		t.Fatalf("New(1): %d", err)
	}
	one, err := Push(q, of(2, 1))
	if err != api.OK || !sameQueue(one, queue(1, of(2, 1))) {
		t.Fatalf("the first one: %s, %d", short(one), err)
	}
	checkRefused(t, one, of(2, 2), api.ErrFull)
	heard := Heard(one, api.Vec{0, 0, 1})
	checkHeard(t, one, api.Vec{0, 0, 1}, queue(1))
	checkPush(t, heard, of(2, 2), queue(1, of(2, 2)), api.OK)
}

func TestP20_1New(t *testing.T) {
	for most := 0; most <= 16; most++ {
		checkNew(t, most, queue(most), api.OK)
	}
	for _, most := range []int{-1, 17, math.MinInt, math.MaxInt} {
		checkNew(t, most, api.Queue{}, api.ErrArg)
	}
	for most := -1000; most <= 1000; most++ {
		want, err := newOf(most)
		checkNew(t, most, want, err)
	}
	for _, most := range ints() {
		want, err := newOf(most)
		checkNew(t, most, want, err)
	}
}

func TestP20_1PushIntoAnEmptyQueue(t *testing.T) {
	for most := 1; most <= maxQueue; most++ {
		q, _ := New(most)
		for _, x := range formed() {
			checkPushed(t, q, x)
			checkPushed(t, api.Queue{Most: most, List: []api.Txn{}}, x)
		}
		for node := range 8 {
			for _, seq := range []int{1, 2, 3, 17, maxSeq - 1, maxSeq} {
				checkPushed(t, q, of(node, seq))
				checkPushed(t, q, rich(node, seq))
			}
		}
	}
}

func TestP20_1PushWhatIsNotFormed(t *testing.T) {
	for _, x := range slices.Concat(unformed(3, 1), unformed(3, 2)) {
		for most := range maxQueue + 1 {
			checkRefused(t, queue(most), x, api.ErrForm)
			checkRefused(t, queue(most, of(3, 1)), x, api.ErrForm)
		}
	}
	// Neither the numbers that are next, nor those behind what is odd itself, make up for it.
	for _, n := range ints() {
		if n >= 0 && n < 8 {
			continue
		}
		checkRefused(t, queue(4), of(n, 1), api.ErrForm)
		checkRefused(t, queue(4, of(n, 1)), of(n, 2), api.ErrForm)
		checkRefused(t, queue(4, api.Txn{}), of(n, 1), api.ErrForm)
	}
	for _, n := range []int{0, -1, -2, math.MinInt, maxSeq + 1, maxSeq + 2, 1<<32 + 1, math.MaxInt} {
		for node := range 8 {
			x := api.Txn{Node: node, Seq: n, Deps: make(api.Vec, node+1)}
			x.Deps[node] = n - 1
			checkRefused(t, queue(4), x, api.ErrForm)
			checkRefused(t, queue(4, api.Txn{Node: node, Seq: n - 1}), x, api.ErrForm)
		}
	}
}

func TestP20_1PushByNodeAndSeq(t *testing.T) {
	for lastNode := range 8 {
		for _, last := range []int{1, 2, 3, 8, 255, 256, maxSeq - 2, maxSeq - 1, maxSeq} {
			q := queue(2, of(lastNode, last))
			for node := range 8 {
				for _, seq := range []int{1, 2, last - 2, last - 1, last, last + 1, last + 2, last + 3, last + 256, last - 256, maxSeq - 1, maxSeq, maxSeq + 1} {
					x := of(node, seq)
					switch {
					case seq < 1 || seq > maxSeq:
						checkRefused(t, q, x, api.ErrForm)
					case node == lastNode && seq == last+1:
						checkPushed(t, q, x)
					default:
						checkRefused(t, q, x, api.ErrGap)
					}
				}
			}
		}
	}
}

func TestP20_1PushByThePlaceThatIsLeft(t *testing.T) {
	for most := range maxQueue + 1 {
		for n := range 2 * maxQueue {
			for _, first := range []int{1, 2, 1000, maxSeq - 2*maxQueue} {
				q := queue(most, run(5, first, first+n-1)...)
				for _, x := range txns(of(5, first+n), rich(5, first+n)) {
					if n < most {
						checkPushed(t, q, x)
					} else {
						checkRefused(t, q, x, api.ErrFull)
					}
				}
			}
		}
	}
}

func TestP20_1PushUntilItIsFull(t *testing.T) {
	for most := range maxQueue + 1 {
		q, _ := New(most)
		for seq := 1; seq <= most; seq++ {
			checkPushed(t, q, rich(4, seq))
			q, _ = Push(q, rich(4, seq))
		}
		checkRefused(t, q, rich(4, most+1), api.ErrFull)
		for seq := 1; seq <= most; seq++ {
			heard := Heard(q, api.Vec{0, 0, 0, 0, seq})
			for more := range seq {
				checkPushed(t, heard, rich(4, most+1+more))
				heard, _ = Push(heard, rich(4, most+1+more))
			}
			checkRefused(t, heard, rich(4, most+1+seq), api.ErrFull)
		}
	}
}

func TestP20_1SeveralErrorsAtOnce(t *testing.T) {
	full := queue(1, of(2, 1))
	for _, q := range []api.Queue{full, queue(0, of(2, 1)), queue(-1, of(2, 1)), queue(math.MinInt, of(2, 1)), queue(16, run(2, 1, 16)...), queue(3, run(2, 1, 20)...)} {
		next := len(q.List) + 1
		roomy := queue(len(q.List)+1, q.List...)
		for _, x := range txns(of(2, next+1), of(2, next-1), of(2, 1), of(3, next), of(1, 1), of(0, maxSeq), rich(7, next)) {
			checkRefused(t, roomy, x, api.ErrGap)
			checkRefused(t, q, x, api.ErrGap)
		}
		checkRefused(t, q, of(2, next), api.ErrFull)
		for _, x := range unformed(2, next) {
			checkRefused(t, roomy, x, api.ErrForm)
			checkRefused(t, q, x, api.ErrForm)
		}
		for _, x := range slices.Concat(unformed(2, next+1), unformed(2, next-1), unformed(3, next)) {
			checkRefused(t, roomy, x, api.ErrForm)
			checkRefused(t, q, x, api.ErrForm)
		}
	}
	for _, most := range []int{0, -1, math.MinInt} {
		checkRefused(t, queue(most), of(2, 1), api.ErrFull)
		checkRefused(t, queue(most), of(2, 5), api.ErrFull)
		for _, x := range unformed(2, 1) {
			checkRefused(t, queue(most), x, api.ErrForm)
		}
	}
}

func TestP20_1PushByMost(t *testing.T) {
	for _, most := range ints() {
		for _, n := range []int{0, 1, 2, 15, 16, 17, 18, 40} {
			q := queue(most, run(6, 1, n)...)
			if n < most {
				checkPushed(t, q, of(6, n+1))
			} else {
				checkRefused(t, q, of(6, n+1), api.ErrFull)
			}
			if n > 0 {
				checkRefused(t, q, of(6, n+2), api.ErrGap)
			}
		}
	}
}

func TestP20_1PushAsksTheLastOneAlone(t *testing.T) {
	gap := queue(8, of(1, 5), of(0, 9), of(1, 1))
	checkPushed(t, gap, of(1, 2))
	for _, x := range txns(of(1, 6), of(0, 10), of(0, 2), of(1, 4), of(1, 1), of(1, 3), of(2, 1)) {
		checkRefused(t, gap, x, api.ErrGap)
	}
	twice := queue(8, of(1, 5), of(1, 5))
	checkPushed(t, twice, of(1, 6))
	checkRefused(t, twice, of(1, 7), api.ErrGap)
	for _, x := range unformed(1, 5) {
		checkPushed(t, queue(8, x), of(1, 6))
		checkPushed(t, queue(8, x, of(0, 1)), of(0, 2))
		checkRefused(t, queue(8, x), of(1, 7), api.ErrGap)
	}
}

func TestP20_1PushBehindWhatNoPushWouldLay(t *testing.T) {
	for node := range 8 {
		// A number 0 has the number 1 behind it, whosesoever it is.
		checkPushed(t, queue(2, api.Txn{Node: node}), of(node, 1))
		checkRefused(t, queue(1, api.Txn{Node: node}), of(node, 1), api.ErrFull)
		checkRefused(t, queue(2, api.Txn{Node: node}), of(node, 2), api.ErrGap)
		for _, seq := range []int{-1, -2, math.MinInt, maxSeq, maxSeq + 1, 1 << 32, 1<<32 - 1, math.MaxInt} {
			for _, next := range []int{1, 2, 3, maxSeq - 1, maxSeq} {
				checkRefused(t, queue(2, api.Txn{Node: node, Seq: seq}), of(node, next), api.ErrGap)
			}
		}
		for _, last := range ints() {
			if last != node {
				checkRefused(t, queue(2, api.Txn{Node: last, Seq: 1}), of(node, 2), api.ErrGap)
			}
		}
	}
}

func TestP20_1WhatIsPushedStandsAsItIs(t *testing.T) {
	// What stands there already stays as it is, too, even what no Push would lay.
	for _, ahead := range odd() {
		for _, x := range formed() {
			checkPushed(t, queue(3, ahead, api.Txn{Node: x.Node, Seq: x.Seq - 1, Deps: api.Vec{0, -1, 0}}), x)
		}
	}
	// Of the Deps nothing is asked but that each one's are formed.
	first, second := rich(1, 4), of(1, 5)
	checkPushed(t, queue(2, first), second)
	checkPushed(t, queue(2, of(1, 4)), rich(1, 5))
}

func TestP20_2HeardKnown(t *testing.T) {
	three := queue(3, run(2, 4, 6)...)
	for _, c := range []struct {
		q    api.Queue
		v    api.Vec
		want api.Queue
	}{
		{queue(3), nil, queue(3)},
		{queue(3), api.Vec{9, 9}, queue(3)},
		{three, nil, three},
		{three, api.Vec{}, three},
		{three, api.Vec{9, 9}, three},
		{three, api.Vec{9, 9, 0, 9}, three},
		{three, api.Vec{0, 0, 3}, three},
		{three, api.Vec{0, 0, 4}, queue(3, run(2, 5, 6)...)},
		{three, api.Vec{0, 0, 5}, queue(3, of(2, 6))},
		{three, api.Vec{0, 0, 6}, queue(3)},
		{three, api.Vec{0, 0, 7}, queue(3)},
		{three, api.Vec{-1, -1, 5, -1}, queue(3, of(2, 6))},
		{three, api.Vec{0, 0, -5}, three},
		{three, api.Vec{0, 0, 5, 0, 0}, queue(3, of(2, 6))},
		// One in the middle: in a list that no Push would make.
		{queue(2, of(0, 2), of(1, 1), of(0, 3)), api.Vec{0, 1}, queue(2, of(0, 2), of(0, 3))},
		{queue(2, of(0, 9), of(0, 1), of(0, 8)), api.Vec{7}, queue(2, of(0, 9), of(0, 8))},
		{queue(2, of(0, 9), of(0, 1), of(0, 8)), api.Vec{8}, queue(2, of(0, 9))},
		{queue(2, of(0, 1), of(1, 1), of(0, 1)), api.Vec{1}, queue(2, of(1, 1))},
		{queue(2, of(1, 1), of(0, 1), of(1, 1)), api.Vec{1}, queue(2, of(1, 1), of(1, 1))},
	} {
		checkHeard(t, c.q, c.v, c.want)
	}
}

func TestP20_2HeardByEachPlace(t *testing.T) {
	for node := range 8 {
		for n := range maxQueue + 2 {
			for _, first := range []int{1, 2, 30, maxSeq - 20} {
				q := queue(maxQueue, run(node, first, first+n-1)...)
				for heard := range n + 2 {
					v := make(api.Vec, node+1)
					v[node] = first - 1 + heard
					checkHeard(t, q, v, queue(maxQueue, run(node, first+heard, first+n-1)...))
					others := slices.Repeat(api.Vec{math.MaxInt}, 9)
					others[node] = v[node]
					checkHeard(t, q, others, queue(maxQueue, run(node, first+heard, first+n-1)...))
				}
			}
		}
	}
}

func TestP20_2HeardByEachNumber(t *testing.T) {
	for _, seq := range ints() {
		for node := range 10 {
			x := api.Txn{Node: node, Seq: seq}
			q := queue(-3, of(0, 9), x, of(7, maxSeq))
			for _, n := range ints() {
				v := slices.Repeat(api.Vec{-1}, 11)
				v[node] = n
				checkHeard(t, q, v, heardOf(q, v))
				checkHeard(t, q, v[:node], heardOf(q, v[:node]))
				checkHeard(t, q, v[:node+1], heardOf(q, v[:node+1]))
				if gone := 1 <= seq && seq <= n; gone != (len(Heard(queue(1, x), v).List) == 0) {
					t.Fatalf("Heard of %s: is it gone by %s? want %t", short(x), short(v), gone)
				}
			}
		}
	}
}

func TestP20_2HeardOfWhatNoVectorHears(t *testing.T) {
	all := slices.Repeat(api.Vec{math.MaxInt}, 20)
	for _, n := range ints() {
		for _, seq := range []int{1, 5, math.MaxInt} {
			x := api.Txn{Node: n, Seq: seq}
			want := queue(2, x)
			if n >= 0 && n < len(all) {
				want = queue(2)
			}
			checkHeard(t, queue(2, x), all, want)
		}
		if n <= 0 {
			for node := range 8 {
				checkHeard(t, queue(2, api.Txn{Node: node, Seq: n}), all, queue(2, api.Txn{Node: node, Seq: n}))
			}
		}
	}
	for _, x := range odd() {
		checkHeard(t, queue(2, x, x), all, heardOf(queue(2, x, x), all))
		checkHeard(t, queue(2, x, x), nil, queue(2, x, x))
	}
}

func TestP20_2MostStays(t *testing.T) {
	for _, most := range ints() {
		checkHeard(t, queue(most), api.Vec{1}, queue(most))
		checkHeard(t, queue(most, run(0, 1, 20)...), nil, queue(most, run(0, 1, 20)...))
		checkHeard(t, queue(most, run(0, 1, 20)...), api.Vec{3}, queue(most, run(0, 4, 20)...))
		checkHeard(t, queue(most, run(0, 1, 20)...), api.Vec{20}, queue(most))
	}
}

func TestP20_2Last(t *testing.T) {
	for _, most := range ints() {
		checkLast(t, queue(most), api.Txn{}, false)
		checkLast(t, api.Queue{Most: most, List: []api.Txn{}}, api.Txn{}, false)
		checkLast(t, api.Queue{Most: most, List: run(1, 1, 3)[:0]}, api.Txn{}, false)
		for n := 1; n <= 20; n++ {
			checkLast(t, queue(most, run(3, 1, n)...), of(3, n), true)
			checkLast(t, api.Queue{Most: most, List: run(3, 1, 25)[:n]}, of(3, n), true)
		}
	}
	for _, x := range odd() {
		checkLast(t, queue(1, x), x, true)
		checkLast(t, queue(1, of(1, 1), x), x, true)
		checkLast(t, queue(1, x, x, of(1, 1)), of(1, 1), true)
	}
}

func TestP20_2LastOfWhatWasPushedAndHeard(t *testing.T) {
	q, _ := New(maxQueue)
	for seq := 1; seq <= maxQueue; seq++ {
		q, _ = Push(q, rich(6, seq))
		checkLast(t, q, rich(6, seq), true)
		for heard := range maxQueue + 2 {
			left := Heard(q, api.Vec{0, 0, 0, 0, 0, 0, heard})
			if heard < seq {
				checkLast(t, left, rich(6, seq), true)
			} else {
				checkLast(t, left, api.Txn{}, false)
			}
		}
	}
}

// few are transactions of which some are next to one another, and some are odd.
func few() []api.Txn {
	return txns(of(0, 1), of(0, 2), rich(0, 2), of(1, 1), of(1, 2), api.Txn{}, api.Txn{Node: 1, Seq: -1}, api.Txn{Node: -1, Seq: 1}, api.Txn{Node: 9, Seq: 1})
}

func TestP20_2AllShortQueues(t *testing.T) {
	pushed := slices.Concat(few(), txns(of(0, 3), rich(1, 3), of(7, 1)), unformed(1, 2))
	heard := vectors(2, -1, 0, 1, 2)
	for _, l := range rows(3, few()...) {
		for _, most := range []int{-1, 0, 1, 2, 3, 4, 17} {
			checkWords(t, queue(most, l...), pushed, heard)
		}
	}
}

// someQueue is a queue that may be odd.
func someQueue(next func(int) int) api.Queue {
	first, node := 1+next(3), next(8)
	q := queue(next(20)-2, run(node, first, first+next(20))...)
	for range next(4) {
		at := next(len(q.List) + 1)
		q.List = slices.Insert(q.List, at, oneOf(next, odd()...))
	}
	return q
}

// someVector is a vector that may be odd.
func someVector(next func(int) int) api.Vec {
	v := make(api.Vec, next(11))
	for node := range v {
		v[node] = oneOf(next, -1, 0, 1, next(20), next(20), maxSeq, math.MaxInt)
	}
	return v
}

func TestP20_2SomeQueues(t *testing.T) {
	for seed := range uint32(3000) {
		next := chance(seed)
		q := someQueue(next)
		last, _ := lastOf(q)
		checkWords(t, q, txns(
			api.Txn{Node: last.Node, Seq: last.Seq + 1, Deps: deps(last.Node, last.Seq+1, next(3))},
			rich(next(8), 1+next(20)), oneOf(next, odd()...),
		), []api.Vec{someVector(next), someVector(next), nil})
	}
}

func TestP20_2LongLists(t *testing.T) {
	// Long enough that the time tells where it grows with the square of the length.
	l := run(1, 1, 200000)
	checkHeard(t, queue(1<<20, l...), api.Vec{0, 100000}, queue(1<<20, l[100000:]...))
	checkPushed(t, queue(1<<20, l...), rich(1, 200001))
	checkRefused(t, queue(200000, l...), rich(1, 200001), api.ErrFull)
	checkLast(t, queue(1<<20, l...), of(1, 200000), true)
}

func TestP20_2SameEachTime(t *testing.T) {
	for seed := range uint32(200) {
		for range 5 {
			next := chance(seed)
			checkWords(t, someQueue(next), txns(rich(1, 2), of(0, 1), api.Txn{}), []api.Vec{someVector(next)})
		}
	}
}
