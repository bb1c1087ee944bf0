package queue

import (
	"slices"
	"testing"

	"buttery/api"
)

// checkLaw asks what P20.3 says of what waits.
func checkLaw(t *testing.T, most int, q api.Queue) {
	t.Helper()
	if q.Most != most {
		t.Fatalf("%s holds another number than %d", short(q), most)
	}
	if len(q.List) > most {
		t.Fatalf("%s holds more than %d", short(q), most)
	}
	for i, x := range q.List {
		if x.Node != q.List[0].Node {
			t.Fatalf("%s is of more than one node", short(q))
		}
		if x.Seq != q.List[0].Seq+i {
			t.Fatalf("%s doesn't go one number after the other", short(q))
		}
	}
}

// step is a Push of x, or, where it has a vector, a Heard of that.
type step struct {
	x api.Txn
	v api.Vec
}

// goOn does all runs of that many steps, and asks each queue for the law, and for just those that went in and weren't heard.
func goOn(t *testing.T, most int, q api.Queue, waits []api.Txn, all []step, left int) {
	t.Helper()
	checkLaw(t, most, q)
	if !sameTxns(q.List, waits) {
		t.Fatalf("%s waits; want %s", short(q), short(waits))
	}
	if left == 0 {
		return
	}
	for _, s := range all {
		next, then := q, waits
		if s.v != nil {
			next, then = Heard(q, s.v), heardOf(queue(most, waits...), s.v).List
		} else if longer, err := Push(q, s.x); err == api.OK {
			next, then = longer, append(slices.Clone(waits), s.x)
		}
		goOn(t, most, next, then, all, left-1)
	}
}

func TestP20_3EachShortRun(t *testing.T) {
	all := []step{
		{x: of(0, 1)}, {x: of(0, 2)}, {x: of(0, 3)}, {x: of(1, 1)}, {x: of(1, 2)}, {x: unformed(0, 2)[0]},
		{v: api.Vec{1}}, {v: api.Vec{2, 1}}, {v: api.Vec{0, 1}}, {v: api.Vec{-1, -1}},
	}
	for most := range 4 {
		q, _ := New(most)
		goOn(t, most, q, nil, all, 5)
	}
}

// outcome is what became of a step: a Push with its error, or a Heard of that kind.
type outcome struct {
	heard int
	err   api.Errno
}

// The kinds of Heard: of none, of some, of all of what waits.
const (
	none = 1 + iota
	some
	all
)

// someTxn is one that may be next behind last, and often isn't.
func someTxn(last api.Txn, next func(int) int) api.Txn {
	node, seq := last.Node, last.Seq+1
	switch next(12) {
	case 0:
		node = next(8)
	case 1:
		seq += oneOf(next, -2, -1, 1, 2)
	case 2:
		return oneOf(next, unformed(node, seq)...)
	case 3:
		return oneOf(next, odd()...)
	}
	if next(2) == 0 {
		return of(node, seq)
	}
	return rich(node, seq)
}

// longRun goes from New on, as many more of ten steps as more says are a Push, and counts what became of them.
func longRun(t *testing.T, most, more int, next func(int) int, counts map[outcome]int) {
	t.Helper()
	q, _ := New(most)
	last := of(next(8), oneOf(next, 0, 1, 100, maxSeq-50))
	var waits []api.Txn
	for range 200 {
		if next(10) < more {
			x := someTxn(last, next)
			longer, err := Push(q, x)
			if _, wantErr := pushOf(queue(most, waits...), x); err != wantErr {
				t.Fatalf("Push(%s, %s): %d; want %d", short(q), short(x), err, wantErr)
			}
			counts[outcome{err: err}]++
			if err == api.OK {
				q, last, waits = longer, x, append(slices.Clone(waits), x)
			}
		} else {
			v := someVector(next)
			if next(3) > 0 {
				v = make(api.Vec, 8)
				v[last.Node] = max(last.Seq-next(most+2), 0)
			}
			q = Heard(q, v)
			before := len(waits)
			waits = heardOf(queue(most, waits...), v).List
			counts[outcome{heard: heardKind(before, len(waits))}]++
		}
		checkLaw(t, most, q)
		if !sameTxns(q.List, waits) {
			t.Fatalf("%s waits; want %s", short(q), short(waits))
		}
	}
}

// heardKind is which of what waited was heard, 0 where nothing did.
func heardKind(before, behind int) int {
	switch {
	case before == 0:
		return 0
	case before == behind:
		return none
	case behind > 0:
		return some
	}
	return all
}

func TestP20_3LongRuns(t *testing.T) {
	counts := map[outcome]int{}
	for most := range maxQueue + 1 {
		for more := 1; more < 10; more++ {
			for seed := range uint32(10) {
				longRun(t, most, more, chance(seed*31+uint32(most*10+more)), counts)
			}
		}
	}
	for _, o := range []outcome{
		{err: api.OK}, {err: api.ErrForm}, {err: api.ErrGap}, {err: api.ErrFull},
		{heard: none}, {heard: some}, {heard: all},
	} {
		if counts[o] < 500 {
			t.Errorf("only %d steps of %+v", counts[o], o)
		}
	}
}

func TestP20_3WhatIsHeardIsABeginning(t *testing.T) {
	for seed := range uint32(2000) {
		next := chance(seed)
		most, node, first := 1+next(maxQueue), next(8), 1+next(5)
		q, _ := New(most)
		for seq := first; seq < first+most; seq++ {
			q, _ = Push(q, rich(node, seq))
		}
		v := someVector(next)
		left := Heard(q, v)
		if gone := len(q.List) - len(left.List); !sameTxns(left.List, q.List[gone:]) {
			t.Fatalf("Heard(%s, %s) = %s: not the end of what waited", short(q), short(v), short(left))
		}
		if again := Heard(left, v); !sameQueue(again, left) {
			t.Fatalf("Heard once more, of %s: %s; want %s", short(v), short(again), short(left))
		}
		checkLaw(t, most, left)
	}
}
