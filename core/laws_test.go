package core

import (
	"bytes"
	"fmt"
	"math"
	"slices"
	"testing"

	"buttery/api"
	"buttery/item"
	"buttery/msg"
	"buttery/past"
	"buttery/store"
	"buttery/txn"
	"buttery/vec"
)

// checkLaws asks of a core what it always is.
func checkLaws(t *testing.T, c api.Core) {
	t.Helper()
	if !store.Sound(c.Store) {
		t.Fatalf("the store is not sound: %s", short(c))
	}
	if !past.Sound(c.Past) || len(c.Past.List) > maxTxns {
		t.Fatalf("the past is not sound: %s", short(c))
	}
	if !slices.Equal(past.End(c.Past), c.Store.Heard) {
		t.Fatalf("the past's end is %v; heard was %v", past.End(c.Past), c.Store.Heard)
	}
	if len(c.Known) != c.Cores {
		t.Fatalf("of %d cores %d are known", c.Cores, len(c.Known))
	}
}

// checkAnswer asks of what a core answers to a message that it is formed, and says nothing that is not under Want.
func checkAnswer(t *testing.T, c api.Core, asked, answer []byte) {
	t.Helper()
	m, err := msg.Read(answer)
	if err != api.OK || !msg.Formed(m) {
		t.Fatalf("%s answers %s, which is no message", short(c), short(answer))
	}
	pull, err := msg.Read(asked)
	if err != api.OK {
		t.Fatalf("%s answers to %s", short(c), short(asked))
	}
	if m.Kind == api.Fill {
		if pull.Kind != api.Ask || len(m.Txns) == 0 {
			t.Fatalf("%s answers %s to %s", short(c), short(m), short(pull))
		}
		return
	}
	if pull.Kind != api.Pull || m.Kind != api.Push && m.Kind != api.Delta || m.Ticket != pull.Ticket || !slices.Equal(m.Want, pull.Want) || !slices.Equal(m.Vec, c.Store.Heard) {
		t.Fatalf("%s answers %s to %s", short(c), short(m), short(pull))
	}
	for _, x := range m.Items {
		if !covered(pull.Want, x.Key) || !slices.Contains(c.Store.Items, x) {
			t.Fatalf("%s answers %s to %s", short(c), short(m), short(pull))
		}
	}
	for _, x := range m.Txns {
		for _, e := range x.Effs {
			if !covered(pull.Want, e.Key) {
				t.Fatalf("%s answers %s to %s", short(c), short(m), short(pull))
			}
		}
	}
}

// checkLed asks that who had heard what a Pull says, and knew what its zone held then, is brought by the answer to what the core holds there now.
func checkLed(t *testing.T, c api.Core, pull api.Msg, answer []byte, had []api.Item) {
	t.Helper()
	m, _ := msg.Read(answer)
	items := m.Items
	if m.Kind == api.Delta {
		s := api.Store{Heard: pull.Vec, Items: had}
		for _, x := range m.Txns {
			s, _ = store.Do(s, x)
		}
		items = s.Items
	}
	if want := store.Under(c.Store, pull.Want).Items; !slices.Equal(items, want) {
		t.Fatalf("%s leads who had %s by %s to %s; want %s", short(c), short(had), short(m), short(items), short(want))
	}
}

// world is some cores, the transactions that edges made, and of each core what it held, time by time. While it is fair, cores hear of each other and of edges just what is so.
type world struct {
	fair   bool
	cores  []api.Core
	edges  []api.Store // by their nodes
	made   []api.Txn
	stores [][]api.Store
}

func newWorld(cores int, fair bool) *world {
	w := &world{fair: fair, edges: make([]api.Store, 8), stores: make([][]api.Store, cores)}
	for me := range cores {
		w.cores = append(w.cores, coreOf(me, cores))
		w.stores[me] = []api.Store{{}}
	}
	return w
}

// edge is some node that is no core.
func (w *world) edge(next func(int) int) int { return len(w.cores) + next(8-len(w.cores)) }

// comes is what a message does to a core; what that replies is answered.
func (w *world) comes(t *testing.T, me, from int, b []byte) []byte {
	t.Helper()
	c := w.cores[me]
	if record, _ := checkWords(t, c, from, b); record != nil {
		w.do(t, me, record)
		checkAllNew(t, c, w.cores[me], record)
		checkNoRecord(t, w.cores[me], from, b)
	}
	_, reply := checkWords(t, w.cores[me], from, b)
	if reply != nil {
		checkAnswer(t, w.cores[me], b, reply)
	}
	return reply
}

// checkAllNew asks that what a record says was all done, in its order.
func checkAllNew(t *testing.T, before, behind api.Core, record []byte) {
	t.Helper()
	m, err := msg.Read(record[1:])
	if err != api.OK || !sameTxns(behind.Past.List, slices.Concat(before.Past.List, m.Txns)) {
		t.Fatalf("behind the record %s the past is %s; it was %s", short(m), short(behind.Past), short(before.Past))
	}
}

// do is what a record does to a core.
func (w *world) do(t *testing.T, me int, r []byte) {
	t.Helper()
	c := w.cores[me]
	want, wantErr := doOf(c, r)
	checkDo(t, c, r, want, wantErr)
	got, err := Do(c, r)
	if err != api.OK {
		return
	}
	checkLaws(t, got)
	if !vec.Within(c.Store.Heard, got.Store.Heard) || !vec.Within(c.Past.Floor, got.Past.Floor) {
		t.Fatalf("Do(%s, %s) goes back: %s", short(c), short(r), short(got))
	}
	w.cores[me] = got
	w.stores[me] = append(w.stores[me], got.Store)
}

// make lets an edge hear some of what was made, and make a transaction.
func (w *world) make(next func(int) int) {
	edge := w.edge(next)
	w.edges[edge], _ = store.All(w.edges[edge], w.made[:next(len(w.made)+1)])
	x := update(w.edges[edge], edge, next)
	w.edges[edge], _ = store.Do(w.edges[edge], x)
	w.made = append(w.made, x)
}

// send lets an edge send some of what was made, in whatever order.
func (w *world) send(t *testing.T, me int, next func(int) int) {
	t.Helper()
	l := mixed(w.made, next)[:next(len(w.made)+1)]
	if !w.fair {
		l = someOf(w.made, next)
	}
	w.comes(t, me, w.edge(next), bytesOf(sending(l...)))
}

// pull lets an edge ask a core for what it lacks, behind something that the core held once.
func (w *world) pull(t *testing.T, me int, next func(int) int) {
	t.Helper()
	had := oneOf(next, w.stores[me]...)
	z := someZone(next)
	pull := pulling(next(9), next(5) == 0, had.Heard, z, oneOf(next, z, z, z, someZone(next)))
	reply := w.comes(t, me, w.edge(next), bytesOf(pull))
	if reply == nil {
		t.Fatalf("%s has no answer to %s", short(w.cores[me]), short(pull))
	}
	if w.fair {
		checkLed(t, w.cores[me], pull, reply, store.Under(had, z).Items)
	}
}

// talk lets a core ask another one, and that one answer.
func (w *world) talk(t *testing.T, asks, answers int) {
	t.Helper()
	known := w.cores[answers].Known[asks]
	reply := w.comes(t, answers, asks, Ask(w.cores[asks]))
	if !slices.Equal(w.cores[answers].Known[asks], vec.Join(known, w.cores[asks].Store.Heard)) {
		t.Fatalf("%s doesn't know what %d has heard", short(w.cores[answers]), asks)
	}
	if reply != nil {
		w.comes(t, asks, answers, reply)
	}
}

// odd is something that never is so: messages and records of any kind, and such as are none.
func (w *world) odd(t *testing.T, me int, next func(int) int) {
	t.Helper()
	c := w.cores[me]
	b := bytesOf(someMsg(c, w.made, next))
	w.comes(t, me, next(10)-1, oneOf(next, b, b, blotted(b, next)))
	w.do(t, me, oneOf(next, telling(next(4), someVec(c, next)...), learning(someOf(w.made, next)...), b))
}

// step is something that happens.
func (w *world) step(t *testing.T, next func(int) int) {
	t.Helper()
	me, other := next(len(w.cores)), next(len(w.cores))
	switch next(8) {
	case 0, 1:
		w.make(next)
	case 2, 3:
		w.send(t, me, next)
	case 4:
		w.do(t, me, Prune())
	case 5:
		w.pull(t, me, next)
	case 6:
		if me != other {
			w.talk(t, me, other)
		}
	case 7:
		if !w.fair {
			w.odd(t, me, next)
		}
	}
}

// checkAlike asks that all cores hold the same when each has asked each, twice, and that they forget all then.
func (w *world) checkAlike(t *testing.T) {
	t.Helper()
	for range 2 {
		for asks := range w.cores {
			for answers := range w.cores {
				if asks != answers {
					w.talk(t, asks, answers)
				}
			}
		}
	}
	first := w.cores[0].Store
	for me, c := range w.cores {
		if !slices.Equal(c.Store.Heard, first.Heard) || !slices.Equal(c.Store.Items, first.Items) {
			t.Fatalf("the cores hold %s and %s", short(first), short(c.Store))
		}
		w.do(t, me, Prune())
		if len(w.cores[me].Past.List) > 0 {
			t.Fatalf("kept though all have heard all: %s", short(w.cores[me].Past))
		}
	}
}

func TestP19_5LongRuns(t *testing.T) {
	for seed := range uint32(120) {
		next := chance(seed)
		w := newWorld(1+int(seed%3), false)
		for range 80 {
			w.step(t, next)
		}
	}
}

func TestP19_5LongRunsWhereAllIsSo(t *testing.T) {
	heard := 0
	for seed := range uint32(120) {
		next := chance(seed)
		w := newWorld(1+int(seed%3), true)
		for range 80 {
			w.step(t, next)
		}
		w.checkAlike(t)
		for _, n := range w.cores[0].Store.Heard {
			heard += n
		}
	}
	if heard < 1000 {
		t.Fatalf("only %d transactions were learnt, in all", heard)
	}
}

func TestP19_5WhatEachCoreHoldsHangsOnNoOrder(t *testing.T) {
	for seed := range uint32(300) {
		next := chance(seed)
		l := history(12, next, 3, 4, 5)
		want, _ := store.All(api.Store{}, l)
		c := coreOf(0, 3)
		for len(c.Past.List) < len(l) {
			var err api.Errno
			if c, err = Do(c, learning(mixed(l, next)[:next(len(l)+1)]...)); err != api.OK {
				t.Fatal(err)
			}
			checkLaws(t, c)
		}
		if !slices.Equal(c.Store.Heard, want.Heard) || !slices.Equal(c.Store.Items, want.Items) {
			t.Fatalf("of %s there is %s; want %s", short(l), short(c.Store), short(want))
		}
	}
}

// spare is a list that has more behind it as its spare room.
func spare[T any](l []T, more ...T) []T { return slices.Concat(l, more)[:len(l)] }

// spareCore is c with more behind each of its lists as spare room.
func spareCore(c api.Core) api.Core {
	c.Store.Heard = spare(c.Store.Heard, 5, 6, 7)
	c.Store.Items = spare(c.Store.Items, elem("a", "spare", dot(1, 1, 1)), elem("b", "spare", dot(4, 1, 0)))
	c.Past.Floor = spare(c.Past.Floor, 8, 9)
	c.Past.List = spare(c.Past.List, few()...)
	all := c.Past.List[:cap(c.Past.List)]
	for i, x := range all {
		all[i].Deps = spare(x.Deps, 5, 6, 7)
		all[i].Effs = spare(x.Effs, add(3, "s", "p", dot(1, 1, 1)), del(4, "s", dot(2, 2, 2)))
		effs := all[i].Effs[:cap(all[i].Effs)]
		for j, e := range effs {
			effs[j].Drops = spare(e.Drops, dot(5, 5, 5), dot(0, 1, 0))
		}
	}
	c.Known = spare(c.Known, api.Vec{1, 2, 3}, api.Vec{4})
	known := c.Known[:cap(c.Known)]
	for j, v := range known {
		known[j] = spare(v, 7, 8, 9)
	}
	return c
}

// room is l with its spare room as a part of it.
func room[T any](l []T) []T { return l[:cap(l):cap(l)] }

// whole is c in memory of its own, each list with its spare room as a part of it.
func whole(c api.Core) api.Core {
	c.Store = api.Store{Heard: room(c.Store.Heard), Items: room(c.Store.Items)}
	c.Past = api.Past{Floor: room(c.Past.Floor), List: slices.Clone(room(c.Past.List))}
	for i, x := range c.Past.List {
		c.Past.List[i].Deps, c.Past.List[i].Effs = room(x.Deps), slices.Clone(room(x.Effs))
		for j, e := range c.Past.List[i].Effs {
			c.Past.List[i].Effs[j].Drops = room(e.Drops)
		}
	}
	c.Known = slices.Clone(room(c.Known))
	for j, v := range c.Known {
		c.Known[j] = room(v)
	}
	return copyOf(c)
}

// turn changes all of a list, spare room and all.
func turn[T any](l []T, to T) {
	l = l[:cap(l)]
	for i := range l {
		l[i] = to
	}
}

// lists are ways of changing one list of a core each, spare room and all, those ahead that stand in others.
func lists(c api.Core) []func() {
	l := []func(){
		func() { turn(c.Store.Heard, 77) }, func() { turn(c.Store.Items, elem("t", "turned", dot(7, 7, 7))) }, func() { turn(c.Past.Floor, 78) },
	}
	for _, x := range c.Past.List {
		l = append(l, func() { turn(x.Deps, 79) })
		for _, e := range x.Effs {
			l = append(l, func() { turn(e.Drops, dot(9, 9, 9)) })
		}
		l = append(l, func() { turn(x.Effs, api.Eff{Key: "turned"}) })
	}
	for _, v := range c.Known {
		l = append(l, func() { turn(v, 76) })
	}
	return append(l, func() { turn(c.Past.List, api.Txn{Node: 77}) }, func() { turn(c.Known, api.Vec{75}) })
}

// turnCore changes all lists of c.
func turnCore(c api.Core) {
	for _, turn := range lists(c) {
		turn()
	}
}

// kinds are cores and records of each kind, such as bring something, such as bring nothing, and such as are none.
func kinds() (cores []api.Core, recs [][]byte) {
	l := few()
	v := []int{0, 0, 0, 0, 2}
	cores = []api.Core{
		coreOf(0, 1), coreOf(1, 3), coreOf(1, 3, learning(l[:3]...)), coreOf(0, 1, learning(l...), Prune()), pulled(),
		coreOf(2, 3, learning(l...), telling(0, v...), telling(1, v...), telling(2, 0, 1), Prune()),
	}
	recs = append(records(), learning(l...), learning(l[4], l[3], l[3], l[2], l[1], l[0]), telling(0, 9, 9, 9), telling(1, v...), telling(9, 1), nil, []byte{9})
	return cores, recs
}

func TestP19_1NothingIsChangedOrShared(t *testing.T) {
	cores, recs := kinds()
	for _, said := range cores {
		for _, r := range recs {
			want, wantErr := doOf(said, r)
			c, b := spareCore(said), spare(r, 1, 2, 3)
			before, bytesBefore := whole(c), slices.Clone(room(b))
			one, err := Do(c, b)
			two, _ := Do(c, b)
			if err != wantErr || !sameCore(one, want) {
				t.Fatalf("spare room tells in Do(%s, %s): %s, %d", short(said), short(r), short(one), err)
			}
			turnCore(one)
			if !sameCore(whole(c), before) || !bytes.Equal(room(b), bytesBefore) {
				t.Fatalf("Do(%s, %s): what was handed in, or its spare room, was changed, or is shared", short(said), short(r))
			}
			turnCore(c)
			turn(b, 0xdd)
			if !sameCore(two, want) {
				t.Fatalf("Do(%s, %s) shares: %s", short(said), short(r), short(two))
			}
		}
	}
}

func TestP19_1ListsOfOneAnswerAreApart(t *testing.T) {
	cores, recs := kinds()
	for _, c := range cores {
		c = shared(c)
		for _, r := range recs {
			answer, _ := Do(c, r)
			for i := range lists(answer) {
				got, _ := Do(c, r)
				apart := copyOf(got)
				// In apart no list shares with another one, so the same is done to it and to the answer.
				lists(got)[i]()
				lists(apart)[i]()
				if !sameCore(got, apart) {
					t.Fatalf("lists of one answer of Do(%s, %s) share: %s; want %s", short(c), short(r), short(got), short(apart))
				}
			}
		}
	}
	one, _ := New(1, 3)
	two, _ := New(1, 3)
	turnCore(one)
	if !sameCore(two, api.Core{Me: 1, Cores: 3, Known: make([]api.Vec, 3)}) {
		t.Fatalf("two new cores share: %s", short(two))
	}
}

// shared is c with one memory for all of its vectors that say the beginning of what it heard.
func shared(c api.Core) api.Core {
	c = copyOf(c)
	memory := slices.Clone(c.Store.Heard)
	share := func(v *api.Vec) {
		if n := len(*v); n <= len(memory) && slices.Equal(*v, memory[:n]) {
			*v = memory[:n]
		}
	}
	share(&c.Store.Heard)
	share(&c.Past.Floor)
	for i := range c.Past.List {
		share(&c.Past.List[i].Deps)
	}
	for j := range c.Known {
		share(&c.Known[j])
	}
	return c
}

func TestP19_2And3NothingIsChangedOrShared(t *testing.T) {
	cores, _ := kinds()
	for _, said := range cores {
		for _, m := range slices.Concat(about(), every()) {
			for from := -1; from <= 8; from++ {
				message := bytesOf(m)
				record, recordOk := recordOf(said, from, message)
				reply, replyOk := replyOf(said, from, message)
				c, b := spareCore(said), spare(message, 1, 2, 3)
				before, bytesBefore := whole(c), slices.Clone(room(b))
				checkRecord(t, c, from, b, record, recordOk)
				checkReply(t, c, from, b, reply, replyOk)
				one, _ := Record(c, from, b)
				two, _ := Record(c, from, b)
				three, _ := Reply(c, from, b)
				four, _ := Reply(c, from, b)
				five, six := Ask(c), Ask(c)
				turn(one, 0xaa)
				turn(three, 0xbb)
				turn(five, 0xcc)
				if !sameCore(whole(c), before) || !bytes.Equal(room(b), bytesBefore) {
					t.Fatalf("Record, Reply or Ask of %s, %d, %s: what was handed in, or its spare room, was changed, or is shared", short(said), from, short(m))
				}
				asked := bytesOf(asking(said.Store.Heard...))
				turnCore(c)
				turn(b, 0xdd)
				if !bytes.Equal(two, record) || !bytes.Equal(four, reply) || !bytes.Equal(six, asked) {
					t.Fatalf("Record, Reply or Ask of %s, %d, %s share: %s, %s, %s", short(said), from, short(m), short(two), short(four), short(six))
				}
			}
		}
	}
}

func TestP19_1ListsThatAreNilOrEmptyAreAlike(t *testing.T) {
	c := api.Core{
		Cores: 2, Known: []api.Vec{{}, {}},
		Store: api.Store{Heard: api.Vec{}, Items: []api.Item{}},
		Past:  api.Past{Floor: api.Vec{}, List: []api.Txn{}},
	}
	nothing := coreOf(0, 2)
	_, recs := kinds()
	for _, r := range recs {
		want, wantErr := doOf(nothing, r)
		checkDo(t, c, r, want, wantErr)
	}
	for _, m := range slices.Concat(about(), every()) {
		for from := -1; from <= 8; from++ {
			record, recordOk := recordOf(nothing, from, bytesOf(m))
			checkRecord(t, c, from, bytesOf(m), record, recordOk)
			reply, replyOk := replyOf(nothing, from, bytesOf(m))
			checkReply(t, c, from, bytesOf(m), reply, replyOk)
		}
	}
	if !bytes.Equal(Ask(c), Ask(nothing)) {
		t.Fatalf("Ask(%s) = %s", short(c), short(Ask(c)))
	}
}

func TestP19_1To4SameEachTime(t *testing.T) {
	for seed := range uint32(150) {
		next := chance(seed)
		l := history(8, next, 3, 4, 5)
		c := someCore(l, next)
		from, b := next(9), bytesOf(someMsg(c, l, next))
		record, recordOk := Record(c, from, b)
		reply, replyOk := Reply(c, from, b)
		behind, err := Do(c, learning(l...))
		for range 5 {
			checkRecord(t, c, from, b, record, recordOk)
			checkReply(t, c, from, b, reply, replyOk)
			checkDo(t, c, learning(l...), behind, err)
			if !bytes.Equal(Ask(c), Ask(copyOf(c))) || !bytes.Equal(Prune(), Prune()) {
				t.Fatalf("Ask(%s) or Prune() are not the same each time", short(c))
			}
		}
	}
}

// oddCores are such as no New and no Do made.
func oddCores() []api.Core {
	c := coreOf(0, 3, learning(few()...), telling(1, 0, 0, 0, 0, 1), telling(2, 0, 0, 0, 0, 2))
	l := []api.Core{{}, {Cores: 1}, {Cores: 3, Me: 1}}
	for _, n := range ints() {
		for _, known := range [][]api.Vec{nil, {nil}, {{-1, 0}, {3, 3, 3}}, slices.Repeat([]api.Vec{{0, 0, 0, 0, 1}}, 12)} {
			one, two := copyOf(c), copyOf(c)
			one.Me, two.Cores = n, n
			one.Known, two.Known = known, known
			l = append(l, one, two, api.Core{Me: n, Cores: n, Known: known})
		}
	}
	for _, v := range []api.Vec{nil, {-1}, {0, 0}, {math.MaxInt, math.MinInt}, slices.Repeat(api.Vec{1}, 20), {0, 0, 0, 0, 2, 1, 1}} {
		one, two := copyOf(c), copyOf(c)
		one.Store.Heard, two.Past.Floor = v, v
		l = append(l, one, two)
	}
	three, four := copyOf(c), copyOf(c)
	three.Past.List = slices.Repeat([]api.Txn{{Node: -1, Seq: -1, Deps: api.Vec{-1, 1 << 40}, Effs: []api.Eff{{Key: "?", Drops: []api.Dot{dot(-1, -1, -1)}}}}}, 4100)
	four.Store.Items = append(four.Store.Items, api.Item{}, elem("?", "x", dot(-1, -1, -1)), four.Store.Items[0])
	return append(l, three, four)
}

func TestAnyCoreIsAnswered(t *testing.T) {
	_, recs := kinds()
	for _, number := range numbers() {
		recs = append(recs, rec(number, asking(0, 0, 0, 0, 3)))
	}
	for _, c := range oddCores() {
		before := copyOf(c)
		for _, r := range recs {
			if got, err := Do(c, r); err != api.OK && (err != api.ErrForm || !sameCore(got, api.Core{})) {
				t.Fatalf("Do(%s, %s) = %s, %d", short(c), short(r), short(got), err)
			}
		}
		for _, from := range ints() {
			for _, m := range about() {
				checkAnyAnswers(t, c, from, bytesOf(m))
			}
		}
		Ask(c)
		if !sameCore(c, before) {
			t.Fatalf("%s was changed to %s", short(before), short(c))
		}
	}
}

// checkAnyAnswers asks that there are bytes where it is said so, and none of what no node says; and that a reply is formed.
func checkAnyAnswers(t *testing.T, c api.Core, from int, b []byte) {
	t.Helper()
	record, recordOk := Record(c, from, b)
	reply, replyOk := Reply(c, from, b)
	noNode := from < 0 || from > 7 || from == c.Me
	if recordOk != (len(record) > 0) || replyOk != (len(reply) > 0) || noNode && (recordOk || replyOk) {
		t.Fatalf("%s: of %s from %d: %s, %t; %s, %t", short(c), short(b), from, short(record), recordOk, short(reply), replyOk)
	}
	if _, err := msg.Read(reply); replyOk && err != api.OK {
		t.Fatalf("%s replies %s to %s", short(c), short(reply), short(b))
	}
}

func TestP19_1LearnsWhatTheStoreTakesAndThePast(t *testing.T) {
	// The words hold to the letter, too, where the store and the past are not at one, as in no core that New and Do made.
	for seed := range uint32(1500) {
		next := chance(seed)
		l := history(12, next, 3, 4, 5)
		c, other := someCore(l, next), someCore(l, next)
		c.Store = other.Store
		come := someOf(l, next)
		want, done, _ := learnOf(c, come)
		checkDo(t, c, learning(come...), want, api.OK)
		record, ok := Record(c, 7, bytesOf(sending(come...)))
		if ok != (len(done) > 0) || ok && !bytes.Equal(record, learning(done...)) {
			t.Fatalf("Record(%s, %s) = %s, %t; want %s", short(c), short(come), short(record), ok, short(done))
		}
	}
}

func TestP19_5OfLongLists(t *testing.T) {
	// Each transaction of one of eight nodes hangs on all ahead of it; they come in the worst order.
	var l []api.Txn
	var heard api.Vec
	for n := range maxTxns {
		x := of(n%8, n/8+1, slices.Clone(heard))
		for at := range 8 {
			x.Effs = append(x.Effs, add(at, fmt.Sprint("k", n%100), "x"))
		}
		heard, _ = vec.With(heard, x.Node, x.Seq)
		l = append(l, x)
	}
	come := slices.Clone(l)
	slices.Reverse(come)
	record, ok := Record(coreOf(0, 2), 1, bytesOf(filling(come...)))
	if !ok || !bytes.Equal(record, learning(l...)) {
		t.Fatal("they are not learnt in the order in which they can be")
	}
	c, err := Do(coreOf(0, 2), record)
	if err != api.OK || !sameTxns(c.Past.List, l) || len(item.Keys(c.Store.Items)) != 100 || len(c.Store.Items) != maxItems {
		t.Fatalf("%d are learnt, error %d", len(c.Past.List), err)
	}
	checkLaws(t, c)
	pull := pulling(1, false, nil, under("k1"), under("k1"))
	reply, ok := Reply(c, 2, bytesOf(pull))
	if !ok {
		t.Fatal("there is no answer")
	}
	checkAnswer(t, c, bytesOf(pull), reply)
	m, _ := msg.Read(reply)
	if m.Kind != api.Delta || len(m.Txns) != maxTxns || !sameTxns(m.Txns[:1], []api.Txn{txn.Only(l[0], under("k1"))}) {
		t.Fatalf("the answer is %s", short(m))
	}
}
