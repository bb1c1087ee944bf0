package core

import (
	"bytes"
	"fmt"
	"math"
	"slices"
	"strings"
	"testing"

	"buttery/api"
	"buttery/bin"
	"buttery/msg"
	"buttery/past"
	"buttery/store"
	"buttery/txn"
	"buttery/vec"
)

const (
	maxSeq   = 1 << 30
	maxTxns  = 4096
	maxItems = 32768
)

// ints are nodes, and numbers of cores: such as may be, and such as may not.
func ints() []int {
	return []int{
		math.MinInt, math.MinInt + 1, -1 << 32, -8, -3, -2, -1, 0, 1, 2, 3, 4, 5, 6, 7, 8, 9, 10, 11, 64, 127, 128,
		1 << 30, 1 << 31, 1 << 32, 1<<32 + 1, 1<<32 + 7, math.MaxInt - 1, math.MaxInt,
	}
}

// dot is the dot of those parts.
func dot(node, seq, at int) api.Dot { return api.Dot{Node: node, Seq: seq, At: at} }

// add and del are effects that make an element and nothing.
func add(at int, key, text string, drops ...api.Dot) api.Eff {
	return api.Eff{At: at, Key: key, Kind: api.Elem, Elem: text, Drops: drops}
}

func del(at int, key string, drops ...api.Dot) api.Eff {
	return api.Eff{At: at, Key: key, Drops: drops}
}

// elem is the item that add makes.
func elem(key, text string, d api.Dot) api.Item {
	return api.Item{Key: key, Kind: api.Elem, Elem: text, Dot: d}
}

// of is a transaction of these parts.
func of(node, seq int, deps api.Vec, effs ...api.Eff) api.Txn {
	return api.Txn{Node: node, Seq: seq, Deps: deps, Effs: effs}
}

// run is these transactions of one node, each adding one element under the key, that hang on nothing of another one.
func run(node, from, to int, key string) []api.Txn {
	var l []api.Txn
	for seq := from; seq <= to; seq++ {
		l = append(l, of(node, seq, said(node, seq-1), add(0, key, "x")))
	}
	return l
}

// said is the vector that says n of one node, and nothing of the others.
func said(node, n int) api.Vec { return vec.Trim(append(make(api.Vec, node), n)) }

// under are the prefixes of a zone.
func under(l ...string) []string { return l }

// sending, filling, asking, pulling, pushing and leading are messages of each kind.
func sending(l ...api.Txn) api.Msg { return api.Msg{Kind: api.Send, Txns: l} }

func filling(l ...api.Txn) api.Msg { return api.Msg{Kind: api.Fill, Txns: l} }

func asking(v ...int) api.Msg { return api.Msg{Kind: api.Ask, Vec: v} }

func pulling(ticket int, whole bool, v api.Vec, has, wants []string) api.Msg {
	return api.Msg{Kind: api.Pull, Ticket: ticket, Whole: whole, Vec: v, Zone: has, Want: wants}
}

func pushing(ticket int, v api.Vec, wants []string, l ...api.Item) api.Msg {
	return api.Msg{Kind: api.Push, Ticket: ticket, Vec: v, Want: wants, Items: l}
}

func leading(ticket int, from, to api.Vec, wants []string, l ...api.Txn) api.Msg {
	return api.Msg{Kind: api.Delta, Ticket: ticket, From: from, Vec: to, Want: wants, Txns: l}
}

// every is a formed message of each kind, and for lists one with something in them and one with nothing.
func every() []api.Msg {
	t := of(4, 1, nil, add(0, "a", "x"))
	return []api.Msg{
		sending(t), sending(), filling(t), filling(), asking(0, 0, 0, 0, 1), asking(),
		pulling(0, false, nil, nil, nil), pulling(3, true, nil, under("a"), under("a", "b")),
		pushing(0, nil, nil), pushing(3, said(4, 1), under("a"), elem("a", "x", dot(4, 1, 0))),
		leading(0, nil, nil, nil), leading(3, nil, said(4, 1), under("a"), t),
	}
}

// bytesOf is the bytes of a message that is formed.
func bytesOf(m api.Msg) []byte {
	b, err := msg.Put(m)
	if err != api.OK {
		panic("no message: " + short(m))
	}
	return b
}

// rec is a record: a number and, behind it, the bytes of a message.
func rec(number int, m api.Msg) []byte {
	b, err := bin.PutNum(nil, number)
	if err != api.OK {
		panic("no number")
	}
	return append(b, bytesOf(m)...)
}

// learning is the record by which these are learnt, telling that the one by which it is known what a core has heard.
func learning(l ...api.Txn) []byte { return rec(0, filling(l...)) }

func telling(j int, v ...int) []byte { return rec(1+j, asking(v...)) }

// coreOf is a core behind these records.
func coreOf(me, cores int, records ...[]byte) api.Core {
	c, err := New(me, cores)
	for _, r := range records {
		if err == api.OK {
			c, err = Do(c, r)
		}
	}
	if err != api.OK {
		panic(fmt.Sprint("no core: ", err))
	}
	return c
}

// copyOf is c in memory of its own.
func copyOf(c api.Core) api.Core {
	c.Store = api.Store{Heard: slices.Clone(c.Store.Heard), Items: slices.Clone(c.Store.Items)}
	c.Past = api.Past{Floor: slices.Clone(c.Past.Floor), List: slices.Clone(c.Past.List)}
	for i, t := range c.Past.List {
		c.Past.List[i].Deps, c.Past.List[i].Effs = slices.Clone(t.Deps), slices.Clone(t.Effs)
		for j, e := range t.Effs {
			c.Past.List[i].Effs[j].Drops = slices.Clone(e.Drops)
		}
	}
	c.Known = slices.Clone(c.Known)
	for j, v := range c.Known {
		c.Known[j] = slices.Clone(v)
	}
	return c
}

// learnOf is what the document says of what a core learns, to the letter: the core, those that were done, and those that are left.
func learnOf(c api.Core, l []api.Txn) (end api.Core, done, left []api.Txn) {
	left = slices.Clone(l)
	for {
		place := slices.IndexFunc(left, func(t api.Txn) bool {
			_, storeErr := store.Do(c.Store, t)
			_, pastErr := past.Keep(c.Past, t)
			return storeErr == api.OK && pastErr == api.OK
		})
		if place < 0 {
			return c, done, left
		}
		c.Store, _ = store.Do(c.Store, left[place])
		c.Past, _ = past.Keep(c.Past, left[place])
		done = append(done, left[place])
		left = slices.Delete(left, place, place+1)
	}
}

// doOf is what it says of Do.
func doOf(c api.Core, r []byte) (api.Core, api.Errno) {
	number, b, err := bin.Num(r)
	if err != api.OK {
		return api.Core{}, api.ErrForm
	}
	m, err := msg.Read(b)
	if err != api.OK {
		return api.Core{}, api.ErrForm
	}
	c = copyOf(c)
	if number == 0 && m.Kind == api.Fill {
		c, _, _ = learnOf(c, m.Txns)
		return c, api.OK
	}
	if number == 9 && m.Kind == api.Fill && len(m.Txns) == 0 {
		least := c.Store.Heard
		for j := range c.Cores {
			if j != c.Me {
				least = vec.Meet(least, c.Known[j])
			}
		}
		c.Past = past.Prune(c.Past, least)
		return c, api.OK
	}
	if j := number - 1; 0 <= j && j < c.Cores && m.Kind == api.Ask {
		c.Known[j] = vec.Join(c.Known[j], m.Vec)
		return c, api.OK
	}
	return api.Core{}, api.ErrForm
}

// isCoreOf and isEdgeOf tell whether a node is another core than c, and whether it is no core.
func isCoreOf(c api.Core, node int) bool { return 0 <= node && node < c.Cores && node != c.Me }

func isEdgeOf(c api.Core, node int) bool { return c.Cores <= node && node <= 7 }

// recordOf is what the document says of Record.
func recordOf(c api.Core, from int, b []byte) ([]byte, bool) {
	m, err := msg.Read(b)
	if err != api.OK {
		return nil, false
	}
	if m.Kind == api.Send && isEdgeOf(c, from) || m.Kind == api.Fill && isCoreOf(c, from) {
		_, done, _ := learnOf(c, m.Txns)
		if len(done) > 0 {
			return rec(0, filling(done...)), true
		}
	}
	if m.Kind == api.Ask && isCoreOf(c, from) && !slices.Equal(vec.Join(c.Known[from], m.Vec), c.Known[from]) {
		return rec(1+from, m), true
	}
	return nil, false
}

// replyOf is what it says of Reply.
func replyOf(c api.Core, from int, b []byte) ([]byte, bool) {
	m, err := msg.Read(b)
	if err != api.OK {
		return nil, false
	}
	since, sinceErr := past.Since(c.Past, m.Vec)
	if m.Kind == api.Ask && isCoreOf(c, from) {
		if sinceErr != api.OK || len(since) == 0 {
			return nil, false
		}
		return bytesOf(filling(since...)), true
	}
	if m.Kind != api.Pull || !isEdgeOf(c, from) || !vec.Within(m.Vec, c.Store.Heard) {
		return nil, false
	}
	if !m.Whole && slices.Equal(m.Zone, m.Want) && sinceErr == api.OK {
		for i, t := range since {
			since[i] = txn.Only(t, m.Want)
		}
		if delta := leading(m.Ticket, m.Vec, c.Store.Heard, m.Want, since...); msg.Formed(delta) {
			return bytesOf(delta), true
		}
	}
	push := pushing(m.Ticket, c.Store.Heard, m.Want, store.Under(c.Store, m.Want).Items...)
	if !msg.Formed(push) {
		return nil, false
	}
	return bytesOf(push), true
}

// same, sameTxns and sameCore tell whether two are the same, lists that are nil like empty ones.
func same(a, b api.Txn) bool {
	sameEff := func(a, b api.Eff) bool {
		return a.At == b.At && a.Key == b.Key && a.Field == b.Field && a.Kind == b.Kind && a.Elem == b.Elem && a.N == b.N && slices.Equal(a.Drops, b.Drops)
	}
	return a.Node == b.Node && a.Seq == b.Seq && slices.Equal(a.Deps, b.Deps) && slices.EqualFunc(a.Effs, b.Effs, sameEff)
}

func sameTxns(a, b []api.Txn) bool { return slices.EqualFunc(a, b, same) }

func sameCore(a, b api.Core) bool {
	return a.Me == b.Me && a.Cores == b.Cores &&
		slices.Equal(a.Store.Heard, b.Store.Heard) && slices.Equal(a.Store.Items, b.Store.Items) &&
		slices.Equal(a.Past.Floor, b.Past.Floor) && sameTxns(a.Past.List, b.Past.List) &&
		slices.EqualFunc(a.Known, b.Known, slices.Equal[api.Vec])
}

// short tells a value, no longer than one can read.
func short(v any) string {
	s := fmt.Sprintf("%+v", v)
	if len(s) > 1500 {
		return s[:1500] + ".."
	}
	return s
}

func checkNew(t *testing.T, me, cores int, want api.Core, wantErr api.Errno) {
	t.Helper()
	if got, err := New(me, cores); err != wantErr || !sameCore(got, want) {
		t.Fatalf("New(%d, %d) = %s, %d; want %s, %d", me, cores, short(got), err, short(want), wantErr)
	}
}

func checkDo(t *testing.T, c api.Core, r []byte, want api.Core, wantErr api.Errno) {
	t.Helper()
	if got, err := Do(c, r); err != wantErr || !sameCore(got, want) {
		t.Fatalf("Do(%s, %s) = %s, %d; want %s, %d", short(c), short(r), short(got), err, short(want), wantErr)
	}
}

func checkRecord(t *testing.T, c api.Core, from int, b, want []byte, wantOk bool) {
	t.Helper()
	if got, ok := Record(c, from, b); ok != wantOk || !bytes.Equal(got, want) {
		t.Fatalf("Record(%s, %d, %s) = %s, %t; want %s, %t", short(c), from, short(b), short(got), ok, short(want), wantOk)
	}
}

func checkReply(t *testing.T, c api.Core, from int, b, want []byte, wantOk bool) {
	t.Helper()
	if got, ok := Reply(c, from, b); ok != wantOk || !bytes.Equal(got, want) {
		t.Fatalf("Reply(%s, %d, %s) = %s, %t; want %s, %t", short(c), from, short(b), short(got), ok, short(want), wantOk)
	}
}

// checkNoRecord and checkNoReply ask that there is nothing.
func checkNoRecord(t *testing.T, c api.Core, from int, b []byte) {
	t.Helper()
	checkRecord(t, c, from, b, nil, false)
}

func checkNoReply(t *testing.T, c api.Core, from int, b []byte) {
	t.Helper()
	checkReply(t, c, from, b, nil, false)
}

// checkRefused asks that Do refuses a record.
func checkRefused(t *testing.T, c api.Core, r []byte) {
	t.Helper()
	checkDo(t, c, r, api.Core{}, api.ErrForm)
}

// checkLearnt asks that of l just these are learnt, in this order.
func checkLearnt(t *testing.T, c api.Core, l, want []api.Txn) {
	t.Helper()
	if len(want) == 0 {
		checkNoRecord(t, c, 7, bytesOf(sending(l...)))
	} else {
		checkRecord(t, c, 7, bytesOf(sending(l...)), learning(want...), true)
	}
	got, err := Do(c, learning(l...))
	if err != api.OK || !sameTxns(got.Past.List, slices.Concat(c.Past.List, want)) {
		t.Fatalf("Do(%s, a Fill with %s): %s, %d; want those learnt that are %s", short(c), short(l), short(got), err, short(want))
	}
	model, _, _ := learnOf(copyOf(c), l)
	if !sameCore(got, model) {
		t.Fatalf("Do(%s, a Fill with %s): %s; want %s", short(c), short(l), short(got), short(model))
	}
}

// checkWords holds Record, Reply and Do of a message against what the document says, and answers what was recorded and replied.
func checkWords(t *testing.T, c api.Core, from int, b []byte) (record, reply []byte) {
	t.Helper()
	record, ok := recordOf(c, from, b)
	checkRecord(t, c, from, b, record, ok)
	reply, ok = replyOf(c, from, b)
	checkReply(t, c, from, b, reply, ok)
	return record, reply
}

// orders are all orders of a list.
func orders[T any](l []T) [][]T {
	if len(l) == 0 {
		return [][]T{nil}
	}
	var all [][]T
	for _, order := range orders(l[1:]) {
		for place := range len(l) {
			all = append(all, slices.Insert(slices.Clone(order), place, l[0]))
		}
	}
	return all
}

// rows are all lists of at most so many of these.
func rows[T any](most int, of ...T) [][]T {
	l := [][]T{nil}
	for from := 0; most > 0; most-- {
		end := len(l)
		for _, row := range l[from:end] {
			for _, x := range of {
				l = append(l, append(slices.Clone(row), x))
			}
		}
		from = end
	}
	return l
}

// chance answers numbers below what it is asked, always the same ones for a seed.
func chance(seed uint32) func(below int) int {
	state := seed*2654435761 + 12345
	return func(below int) int {
		state = state*1664525 + 1013904223
		return int(state >> 8 % uint32(below))
	}
}

// mixed is a list in some other order.
func mixed[T any](l []T, next func(int) int) []T {
	l = slices.Clone(l)
	for i := range l {
		j := i + next(len(l)-i)
		l[i], l[j] = l[j], l[i]
	}
	return l
}

// oneOf is some one of these.
func oneOf[T any](next func(int) int, l ...T) T { return l[next(len(l))] }

// history is what these nodes make, n transactions one behind the other, that hang on what their nodes had heard by then.
func history(n int, next func(int) int, nodes ...int) []api.Txn {
	stores := make([]api.Store, 8)
	var l []api.Txn
	for range n {
		node := oneOf(next, nodes...)
		stores[node], _ = store.All(stores[node], l[:next(len(l)+1)])
		t := update(stores[node], node, next)
		stores[node], _ = store.Do(stores[node], t)
		l = append(l, t)
	}
	return l
}

// update is a transaction of node, which holds s: each effect takes some of its key's items away.
func update(s api.Store, node int, next func(int) int) api.Txn {
	t := of(node, vec.At(s.Heard, node)+1, slices.Clone(s.Heard))
	for at := range 8 {
		if next(3) > 0 {
			continue
		}
		e := api.Eff{At: at, Key: oneOf(next, "a", "a/b", "ab", "b", "c"), Field: oneOf(next, "", "f"), Kind: next(4)}
		switch e.Kind {
		case api.Elem, api.Reg:
			e.Elem = oneOf(next, "", "x", "y")
		case api.Count:
			e.N = int64(next(9) - 4)
		}
		for _, x := range s.Items {
			if x.Key == e.Key && next(3) == 0 {
				e.Drops = append(e.Drops, x.Dot)
			}
		}
		slices.SortFunc(e.Drops, func(a, b api.Dot) int {
			return slices.Compare([]int{a.Node, a.Seq, a.At}, []int{b.Node, b.Seq, b.At})
		})
		e.Drops = e.Drops[:min(len(e.Drops), 64)]
		if e.Kind != 0 || len(e.Drops) > 0 {
			t.Effs = append(t.Effs, e)
		}
	}
	return t
}

// unlike is another transaction of the same Node and Seq.
func unlike(t api.Txn, next func(int) int) api.Txn {
	return oneOf(next,
		of(t.Node, t.Seq, t.Deps),
		of(t.Node, t.Seq, t.Deps, add(next(8), "b", "unlike")),
		of(t.Node, t.Seq, said(t.Node, t.Seq-1), add(2, "c", "alone")),
	)
}

// someOf are some of l, mixed, some of them twice and some beside another one of the same name.
func someOf(l []api.Txn, next func(int) int) []api.Txn {
	var some []api.Txn
	for _, t := range l {
		switch next(8) {
		case 0:
		case 1:
			some = append(some, t, t)
		case 2:
			some = append(some, t, unlike(t, next))
		default:
			some = append(some, t)
		}
	}
	if next(2) == 0 {
		return some
	}
	return mixed(some, next)
}

// someVec is a vector not far from those that c is about.
func someVec(c api.Core, next func(int) int) api.Vec {
	v := slices.Clone(oneOf(next, nil, c.Past.Floor, c.Store.Heard, oneOf(next, c.Known...)))
	for range next(3) {
		node := next(8)
		if w, err := vec.With(v, node, max(0, vec.At(v, node)+next(5)-2)); err == api.OK {
			v = w
		}
	}
	return vec.Trim(v)
}

// someZone is a zone in its one form.
func someZone(next func(int) int) []string {
	return oneOf(next, nil, under(""), under("a"), under("a/"), under("ab", "b"), under("b"), under("c", "d"), under("zz"))
}

// someMsg is a message about what is in l, or one that would be, of any kind.
func someMsg(c api.Core, l []api.Txn, next func(int) int) api.Msg {
	switch next(10) {
	case 0, 1:
		return sending(someOf(l, next)...)
	case 2, 3:
		return filling(someOf(l, next)...)
	case 4, 5:
		return asking(someVec(c, next)...)
	case 6, 7, 8:
		z := someZone(next)
		return pulling(next(4), next(4) == 0, someVec(c, next), z, oneOf(next, z, z, someZone(next)))
	}
	return oneOf(next, every()...)
}

// blotted is the bytes of no message, mostly.
func blotted(b []byte, next func(int) int) []byte {
	b = slices.Clone(b)
	switch next(4) {
	case 0:
		return b[:next(len(b))]
	case 1:
		return append(b, byte(next(256)))
	case 2:
		return nil
	}
	b[next(len(b))] ^= byte(1 << next(8))
	return b
}

// someCore is a core that was made of some of l.
func someCore(l []api.Txn, next func(int) int) api.Core {
	cores := 1 + next(3)
	c := coreOf(next(cores), cores)
	for range next(6) {
		switch next(4) {
		case 0, 1:
			c, _ = Do(c, learning(someOf(l[:next(len(l)+1)], next)...))
		case 2:
			c, _ = Do(c, telling(next(cores), oneOf(next, someVec(c, next), c.Store.Heard)...))
		case 3:
			c, _ = Do(c, Prune())
		}
	}
	return c
}

// covered tells whether one of z's texts begins key.
func covered(z []string, key string) bool {
	return slices.ContainsFunc(z, func(p string) bool { return strings.HasPrefix(key, p) })
}
