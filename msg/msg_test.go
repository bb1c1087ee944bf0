package msg

import (
	"bytes"
	"encoding/binary"
	"fmt"
	"math"
	"reflect"
	"slices"
	"strings"
	"testing"

	"buttery/api"
	"buttery/item"
	"buttery/txn"
	"buttery/zone"
)

const maxSeq = 1 << 30

// The kinds, by their numbers in the bytes.
const (
	send, pull, push, delta, ask, fill = 1, 2, 3, 4, 5, 6
)

// ints are values of a message's numbers: such as may be, and such as may not.
func ints() []int {
	return []int{
		math.MinInt, -1 << 40, -1<<32 + 1, -8, -2, -1, 0, 1, 2, 3, 4, 5, 6, 7, 8, 9, 15, 63, 64, 65, 127, 128, 1 << 14,
		maxSeq - 2, maxSeq - 1, maxSeq, maxSeq + 1, maxSeq + 2, 1 << 31, 1 << 32, 1<<32 + 1, 1<<32 + 2, 1<<56 - 1, 1 << 56, math.MaxInt - 1, math.MaxInt,
	}
}

// dot is the dot of those parts.
func dot(node, seq, at int) api.Dot { return api.Dot{Node: node, Seq: seq, At: at} }

// elem, reg and count are items: an element of a set, a value of a register, a part of a counter.
func elem(key, text string, node, seq, at int) api.Item {
	return api.Item{Key: key, Kind: 1, Elem: text, Dot: dot(node, seq, at)}
}

func reg(key, text string, node, seq, at int) api.Item {
	return api.Item{Key: key, Kind: 2, Elem: text, Dot: dot(node, seq, at)}
}

func count(key string, n int64, node, seq, at int) api.Item {
	return api.Item{Key: key, Kind: 3, N: n, Dot: dot(node, seq, at)}
}

// in is x in that field.
func in(field string, x api.Item) api.Item {
	x.Field = field
	return x
}

// add, inc and del are effects that make an element, a part of a counter and nothing.
func add(at int, key, text string, drops ...api.Dot) api.Eff {
	return api.Eff{At: at, Key: key, Kind: 1, Elem: text, Drops: drops}
}

func inc(at int, key string, n int64, drops ...api.Dot) api.Eff {
	return api.Eff{At: at, Key: key, Kind: 3, N: n, Drops: drops}
}

func del(at int, key string, drops ...api.Dot) api.Eff {
	return api.Eff{At: at, Key: key, Drops: drops}
}

// of is a transaction of these parts.
func of(node, seq int, deps api.Vec, effs ...api.Eff) api.Txn {
	return api.Txn{Node: node, Seq: seq, Deps: deps, Effs: effs}
}

// telling is a message of a kind that names transactions alone.
func telling(kind int, l ...api.Txn) api.Msg { return api.Msg{Kind: kind, Txns: l} }

func asking(v ...int) api.Msg { return api.Msg{Kind: ask, Vec: v} }

func pulling(ticket int, whole bool, v api.Vec, has, wants []string) api.Msg {
	return api.Msg{Kind: pull, Ticket: ticket, Whole: whole, Vec: v, Zone: has, Want: wants}
}

func pushing(ticket int, v api.Vec, wants []string, l ...api.Item) api.Msg {
	return api.Msg{Kind: push, Ticket: ticket, Vec: v, Want: wants, Items: l}
}

func leading(ticket int, from, to api.Vec, wants []string, l ...api.Txn) api.Msg {
	return api.Msg{Kind: delta, Ticket: ticket, From: from, Vec: to, Want: wants, Txns: l}
}

// under is a list of texts.
func under(l ...string) []string { return l }

// cut is v without the zeros at its end.
func cut(v api.Vec) api.Vec {
	for len(v) > 0 && v[len(v)-1] == 0 {
		v = v[:len(v)-1]
	}
	return v
}

// full is the longest transaction that there may be.
func full() api.Txn {
	t := of(7, maxSeq, slices.Repeat(api.Vec{maxSeq}, 8))
	t.Deps[7] = maxSeq - 1
	for at := range 8 {
		e := api.Eff{At: at, Key: strings.Repeat("k", 16), Field: strings.Repeat("f", 16), Kind: 1 + at%2, Elem: strings.Repeat("\xff", 32)}
		for i := range 64 {
			e.Drops = append(e.Drops, dot(i/8, maxSeq-1-at, i%8))
		}
		t.Effs = append(t.Effs, e)
	}
	return t
}

// everyTxns are transactions, one behind the other from 1 0 2 on, on "a" and "b", with all kinds of effects; behind them is heard 2 1 3 2.
func everyTxns() []api.Txn {
	return []api.Txn{
		of(3, 1, api.Vec{1}, add(0, "a", "x"), inc(5, "b/c", -77)),
		of(0, 2, api.Vec{1, 0, 2}, api.Eff{At: 1, Key: "b", Field: "f/g", Kind: 2, Elem: "re\x80", Drops: []api.Dot{dot(0, 1, 7), dot(2, 1, 3), dot(2, 2, 6)}}),
		of(3, 2, api.Vec{2, 0, 0, 1}, del(4, "a", dot(0, 2, 1), dot(3, 1, 0)), add(6, "a", "y", dot(3, 2, 5))),
		of(1, 1, nil),
		of(2, 3, api.Vec{2, 1, 2, 2}, inc(2, "a/0", 1<<40+300, dot(1, 1, 0))),
	}
}

// everyItems are items in their one form, under "a", "b/" and "c", and heard by 4 0 300.
func everyItems() []api.Item {
	return []api.Item{
		elem("a", "x", 0, 1, 5), elem("a", "y", 0, 2, 3), in("f", count("a", -12345678901, 2, 300, 7)), in("g/h", reg("a/b", "\x00\xff", 2, 77, 0)),
		elem("b/1", "", 0, 4, 4), reg("c", "zz", 2, 1, 2),
	}
}

// every is one message of each kind, in which no two parts are the same by chance.
func every() []api.Msg {
	return []api.Msg{
		telling(send, everyTxns()...),
		pulling(300, true, api.Vec{9, 0, 70000}, under("a/b", "c"), under("0", "d/", "e")),
		pushing(65, api.Vec{4, 0, 300}, under("a", "b/", "c"), everyItems()...),
		leading(1000, api.Vec{1, 0, 2}, api.Vec{2, 1, 3, 2}, under("a", "b"), everyTxns()...),
		asking(1, 0, 2),
		telling(fill, of(7, 1, api.Vec{maxSeq}, add(3, "a", "x", dot(0, 7, 7))), of(0, 1, nil)),
	}
}

// eights are vectors of as many nodes as there may be.
func eights(n int) api.Vec { return slices.Repeat(api.Vec{n}, 8) }

// rights are messages that are formed: at the edges, and others.
func rights() []api.Msg {
	long := strings.Repeat("k", 16)
	eight := under("a", "b", "c", "d", "e", "f", "g", "h")
	l := []api.Msg{
		telling(send), telling(fill), asking(), asking(1), asking(0, 0, 0, 0, 0, 0, 0, 1), asking(eights(maxSeq)...),
		telling(send, of(1, 1, nil)), telling(fill, of(1, 1, nil), of(1, 1, nil), of(0, 7, api.Vec{6}, add(0, "z", "x"))), telling(send, full(), of(0, 1, nil), full()),
		pulling(0, false, nil, nil, nil), pulling(0, true, nil, nil, nil), pulling(maxSeq, false, eights(maxSeq), nil, eight), pulling(1, true, api.Vec{0, 1}, under(""), under("")),
		pulling(127, false, nil, eight, nil), pulling(128, false, nil, under("/", "0", "9", "a", long), under("zz")),
		pushing(0, nil, nil), pushing(maxSeq, eights(1), eight), pushing(1, api.Vec{5}, under("")), pushing(1, api.Vec{1}, under(""), elem("a", "x", 0, 1, 0)),
		pushing(1, eights(maxSeq), under(long), in(long, reg(long, strings.Repeat("\xff", 32), 7, maxSeq, 7))),
		pushing(1, api.Vec{1}, under("a"), count("a", math.MinInt64, 0, 1, 0), count("a", math.MaxInt64, 0, 1, 1), count("a/b", 0, 0, 1, 2)),
		leading(0, nil, nil, nil), leading(maxSeq, eights(maxSeq), eights(maxSeq), eight), leading(7, api.Vec{0, 3}, api.Vec{0, 3}, under("")),
		leading(7, nil, api.Vec{0, 1}, nil, of(1, 1, nil)), leading(7, nil, api.Vec{1}, under("a"), of(0, 1, nil, add(7, "a", "x"))), leading(7, nil, api.Vec{1, 0, 0, 0, 0, 0, 0, 1}, under(""), of(7, 1, nil), of(0, 1, nil)),
		leading(7, api.Vec{maxSeq - 1, 5}, api.Vec{maxSeq, 5}, under("kk", "l"), of(0, maxSeq, api.Vec{maxSeq - 1}, add(0, "l", "x"))),
		leading(7, full().Deps, eights(maxSeq), under("kkk"), full()),
		leading(7, eights(1), api.Vec{1, 1, 2, 1, 1, 1, 1, 1}, nil, of(2, 2, api.Vec{0, 0, 1})),
	}
	return append(l, every()...)
}

// wrongs are messages that are not formed, though their bytes can be laid: each by one thing.
func wrongs() []api.Msg {
	x, y := elem("a", "x", 0, 1, 0), elem("a", "y", 0, 1, 1)
	one, two := of(0, 1, nil, add(0, "a", "x")), of(0, 2, api.Vec{1}, add(0, "a", "x"))
	l := []api.Msg{
		{}, {Kind: 7}, {Kind: 8}, {Kind: 1<<56 - 1},
		// What the kind doesn't name.
		{Kind: send, Ticket: 1}, {Kind: send, Whole: true}, {Kind: send, Vec: api.Vec{1}}, {Kind: send, Zone: under("a")}, {Kind: fill, Want: under("")}, {Kind: fill, From: api.Vec{1}},
		{Kind: fill, Items: []api.Item{x}}, {Kind: ask, Ticket: 1}, {Kind: ask, From: api.Vec{1}}, {Kind: ask, Txns: []api.Txn{one}}, {Kind: pull, From: api.Vec{1}}, {Kind: pull, Txns: []api.Txn{one}},
		{Kind: pull, Vec: api.Vec{1}, Want: under("a"), Items: []api.Item{x}}, {Kind: push, Whole: true}, {Kind: push, From: api.Vec{1}}, {Kind: push, Zone: under("a")}, {Kind: push, Txns: []api.Txn{one}},
		{Kind: delta, Whole: true}, {Kind: delta, Zone: under("a")}, {Kind: delta, From: api.Vec{1}, Vec: api.Vec{1}, Want: under("a"), Items: []api.Item{x}},
		// Numbers.
		pulling(maxSeq+1, false, nil, nil, nil), pushing(maxSeq+1, nil, nil), leading(1<<56-1, nil, nil, nil),
		asking(0), asking(1, 0), asking(maxSeq + 1), asking(slices.Repeat(api.Vec{0}, 8)...), pulling(0, false, api.Vec{0, 0}, nil, nil), pushing(0, api.Vec{1<<56 - 1}, nil),
		leading(0, api.Vec{0}, nil, nil), leading(0, nil, api.Vec{0}, nil), leading(0, api.Vec{0}, api.Vec{0}, nil), leading(0, api.Vec{maxSeq + 1}, api.Vec{maxSeq + 1}, nil),
		// Zones.
		pulling(0, false, nil, under("b", "a"), nil), pulling(0, false, nil, nil, under("a", "a")), pulling(0, false, nil, under("a", "a/b"), nil), pulling(0, false, nil, nil, under("", "a")),
		pulling(0, false, nil, under("A"), nil), pulling(0, false, nil, nil, under(strings.Repeat("a", 17))), pushing(0, nil, under("", "")), leading(0, nil, nil, under("b", "c", "cc")),
		// Transactions.
		telling(send, of(0, 2, nil)), telling(fill, one, of(8, 1, nil), two), telling(fill, one, two, of(0, 3, api.Vec{2, 0})), telling(send, of(0, 1, nil, del(0, "a"))),
		// Items.
		pushing(0, api.Vec{1}, under("a"), y, x), pushing(0, api.Vec{1}, under("a"), x, x), pushing(0, api.Vec{1}, under("a"), x, elem("b", "y", 0, 1, 1)), pushing(0, api.Vec{1}, under("a"), elem("A", "y", 0, 1, 1), x),
		pushing(0, api.Vec{1}, under("", "a"), x), pushing(0, api.Vec{1}, nil, x), pushing(0, nil, under("a"), x), pushing(0, api.Vec{0, 1}, under("a"), x), pushing(0, api.Vec{1}, under("a"), x, elem("a", "y", 0, 2, 0)),
		pushing(0, api.Vec{1}, under("a"), x, elem("a", "y", 1, 1, 0)), pushing(0, api.Vec{1}, under("a"), elem("a", "y", 0, 0, 0)), pushing(0, api.Vec{1}, under("a"), x, elem("aa", "y", 0, 1, 0)),
		pushing(0, api.Vec{1}, under("a"), api.Item{Key: "a", Kind: 1, N: 1, Dot: dot(0, 1, 0)}), pushing(0, api.Vec{1}, under("a"), api.Item{Key: "a", Kind: 3, Elem: "x", Dot: dot(0, 1, 0)}),
		// Chains.
		leading(0, nil, api.Vec{2}, under("a"), two), leading(0, nil, api.Vec{2}, under("a"), two, one), leading(0, nil, api.Vec{1}, under("a"), one, one), leading(0, api.Vec{1}, api.Vec{1}, under("a"), one),
		leading(0, nil, api.Vec{1}, under("a"), one, two), leading(0, nil, api.Vec{3}, under("a"), one, two), leading(0, nil, api.Vec{2, 1}, under("a"), one, two), leading(0, nil, nil, under("a"), one),
		leading(0, nil, api.Vec{1}, nil, one), leading(0, nil, api.Vec{1}, under("b"), one), leading(0, nil, api.Vec{2}, under("a"), one, of(0, 2, api.Vec{1}, add(0, "a", "x"), add(1, "b", "x"))),
		leading(0, nil, api.Vec{1, 1}, under("a"), of(0, 1, api.Vec{0, 1}), of(1, 1, nil)), leading(0, api.Vec{1}, nil, nil), leading(0, nil, api.Vec{1}, nil), leading(0, api.Vec{1}, api.Vec{2}, nil), leading(0, api.Vec{1, 1}, api.Vec{1}, nil),
	}
	return l
}

// unputs are messages that are not formed, and have no bytes that Read would go through.
func unputs() []api.Msg {
	x, one := elem("a", "x", 0, 1, 0), of(0, 1, nil)
	nine := under("a", "b", "c", "d", "e", "f", "g", "h", "i")
	return []api.Msg{
		{Kind: -1}, {Kind: math.MinInt}, {Kind: math.MaxInt}, {Kind: 1 << 56}, pulling(-1, false, nil, nil, nil), pushing(math.MinInt, nil, nil), leading(math.MaxInt, nil, nil, nil), leading(-1, nil, nil, nil),
		asking(-1), asking(-1, 1), asking(1, -1), asking(slices.Repeat(api.Vec{1}, 9)...), asking(append(eights(1), 0)...), asking(append(eights(0), 1)...), pulling(0, false, api.Vec{math.MinInt, 1}, nil, nil),
		pushing(0, append(eights(1), 1), nil), leading(0, append(eights(1), 1), append(eights(1), 1), nil), leading(0, api.Vec{-1}, nil, nil), leading(0, api.Vec{-1, 1}, api.Vec{0, 1}, nil), leading(0, nil, api.Vec{-1}, nil),
		{Kind: send, Ticket: -1}, {Kind: send, Vec: api.Vec{-1}}, {Kind: ask, From: api.Vec{-1}},
		pulling(0, false, nil, nine, nil), pulling(0, false, nil, nil, nine), pushing(0, nil, nine), leading(0, nil, nil, nine), pulling(0, false, nil, under(strings.Repeat("a", 1<<17)), nil),
		telling(send, of(-1, 1, nil)), telling(fill, one, of(0, -1, nil)), telling(send, slices.Repeat([]api.Txn{one}, 4097)...), telling(fill, slices.Repeat([]api.Txn{one}, 5000)...),
		pushing(0, api.Vec{1}, under("a"), x, elem("a", "x", -1, 1, 0)), pushing(0, api.Vec{1}, under("a"), x, elem("a", "x", 0, 1, -1)), pushing(0, api.Vec{1}, under("a"), elem("a", strings.Repeat("a", 1<<17), 0, 1, 0)),
		pushing(0, api.Vec{maxSeq}, under("a"), manyItems(1<<15+1)...), leading(0, nil, api.Vec{4097}, nil, manyTxns(4097)...),
	}
}

// manyItems are n items in their one form.
func manyItems(n int) []api.Item {
	l := make([]api.Item, n)
	for i := range l {
		l[i] = elem("a", "x", 0, 1+i/8, i%8)
	}
	return l
}

// manyTxns are n transactions of one node, one behind the other.
func manyTxns(n int) []api.Txn {
	l := make([]api.Txn, n)
	for i := range l {
		l[i] = of(0, 1+i, cut(api.Vec{i}))
	}
	return l
}

// odds are messages of all kinds, formed or not.
func odds() []api.Msg { return slices.Concat(rights(), wrongs(), unputs()) }

// namedBy is which fields a kind names.
func namedBy(kind int) []string {
	switch kind {
	case send, fill:
		return under("Txns")
	case ask:
		return under("Vec")
	case pull:
		return under("Ticket", "Whole", "Vec", "Zone", "Want")
	case push:
		return under("Ticket", "Vec", "Want", "Items")
	case delta:
		return under("Ticket", "From", "Vec", "Want", "Txns")
	}
	return nil
}

// saysBeside tells whether m says something in a field that its kind doesn't name.
func saysBeside(m api.Msg) bool {
	v := reflect.ValueOf(m)
	for i := range v.NumField() {
		field, name := v.Field(i), v.Type().Field(i).Name
		empty := field.IsZero() || field.Kind() == reflect.Slice && field.Len() == 0
		if name != "Kind" && !empty && !slices.Contains(namedBy(m.Kind), name) {
			return true
		}
	}
	return false
}

// isVector, isZone, areIn, isChain and isFormed are what the document says of a message that is formed.
func isVector(v api.Vec) bool {
	for node, n := range v {
		if node > 7 || n < 0 || n > 1073741824 || n == 0 && node == len(v)-1 {
			return false
		}
	}
	return true
}

func isZone(z []string) bool {
	norm, err := zone.Norm(z)
	return err == api.OK && slices.Equal(norm, z)
}

// begins tells whether key begins with one of z.
func begins(z []string, key string) bool {
	for _, s := range z {
		if len(key) >= len(s) && key[:len(s)] == s {
			return true
		}
	}
	return false
}

func areIn(m api.Msg) bool {
	seen := map[api.Dot]bool{}
	for i, x := range m.Items {
		if i >= 32768 || !item.Formed(x) || !begins(m.Want, x.Key) || seen[x.Dot] || i > 0 && !item.Less(m.Items[i-1], x) {
			return false
		}
		if x.Dot.Node >= len(m.Vec) || x.Dot.Seq > m.Vec[x.Dot.Node] {
			return false
		}
		seen[x.Dot] = true
	}
	return true
}

func isChain(m api.Msg) bool {
	heard := make(api.Vec, 8)
	copy(heard, m.From)
	for _, t := range m.Txns {
		if t.Seq != heard[t.Node]+1 {
			return false
		}
		for node, n := range t.Deps {
			if n > heard[node] {
				return false
			}
		}
		for _, e := range t.Effs {
			if !begins(m.Want, e.Key) {
				return false
			}
		}
		heard[t.Node]++
	}
	return slices.Equal(cut(heard), m.Vec)
}

func isFormed(m api.Msg) bool {
	if m.Kind < 1 || m.Kind > 6 || saysBeside(m) || m.Ticket < 0 || m.Ticket > 1073741824 {
		return false
	}
	if !isVector(m.Vec) || !isVector(m.From) || !isZone(m.Zone) || !isZone(m.Want) || !areIn(m) || len(m.Txns) > 4096 {
		return false
	}
	for _, t := range m.Txns {
		if !txn.Formed(t) {
			return false
		}
	}
	return m.Kind != delta || isChain(m)
}

// many is a number of things that stand behind it, in those parts; there may be most.
type many struct{ n, most int }

// lay puts parts one behind the other, by the library's numbers: ints and manys as numbers, int64s as whole numbers, strings as texts, bytes as they are.
func lay(parts ...any) []byte {
	var b []byte
	for _, part := range parts {
		switch x := part.(type) {
		case int:
			b = binary.AppendUvarint(b, uint64(x))
		case many:
			b = binary.AppendUvarint(b, uint64(x.n))
		case int64:
			b = binary.LittleEndian.AppendUint64(b, uint64(x))
		case string:
			b = append(binary.AppendUvarint(b, uint64(len(x))), x...)
		case []byte:
			b = append(b, x...)
		default:
			panic("lay")
		}
	}
	return b
}

// partsOf is what the document says of a message's bytes, part by part.
func partsOf(m api.Msg) []any {
	l := []any{m.Kind, m.Ticket, map[bool]int{false: 0, true: 1}[m.Whole]}
	for _, v := range []api.Vec{m.Vec, m.From} {
		l = append(l, many{len(v), 8})
		for _, n := range v {
			l = append(l, n)
		}
	}
	for _, z := range [][]string{m.Zone, m.Want} {
		l = append(l, many{len(z), 8})
		for _, s := range z {
			l = append(l, s)
		}
	}
	l = append(l, many{len(m.Items), 32768})
	for _, x := range m.Items {
		l = append(l, x.Key, x.Field, x.Kind, x.Elem, x.N, x.Dot.Node, x.Dot.Seq, x.Dot.At)
	}
	l = append(l, many{len(m.Txns), 4096})
	for _, t := range m.Txns {
		l = append(l, partsOfTxn(t)...)
	}
	return l
}

func partsOfTxn(t api.Txn) []any {
	l := []any{t.Node, t.Seq, many{len(t.Deps), 8}}
	for _, n := range t.Deps {
		l = append(l, n)
	}
	l = append(l, many{len(t.Effs), 8})
	for _, e := range t.Effs {
		l = append(l, e.At, e.Key, e.Field, e.Kind, e.Elem, e.N, many{len(e.Drops), 64})
		for _, d := range e.Drops {
			l = append(l, d.Node, d.Seq, d.At)
		}
	}
	return l
}

// bytesOf is those parts laid, of whatever message.
func bytesOf(m api.Msg) []byte { return lay(partsOf(m)...) }

// parts reads parts by the library's numbers; what can't be read stops it at once.
type parts struct {
	b  []byte
	at int
}

func (p *parts) some(n int) []byte {
	if n > len(p.b)-p.at {
		panic(api.ErrForm)
	}
	p.at += n
	return p.b[p.at-n : p.at]
}

func (p *parts) num() int {
	v, size := binary.Uvarint(p.b[p.at:min(len(p.b), p.at+8)])
	if size <= 0 || size > 1 && p.b[p.at+size-1] == 0 {
		panic(api.ErrForm)
	}
	p.at += size
	return int(v)
}

func (p *parts) many() int {
	// What is told of has a byte at least, each.
	n := p.num()
	if n > len(p.b)-p.at {
		panic(api.ErrForm)
	}
	return n
}

func (p *parts) text() string { return string(p.some(p.many())) }

func (p *parts) whole() int64 { return int64(binary.LittleEndian.Uint64(p.some(8))) }

func (p *parts) nums() (v api.Vec) {
	for range p.many() {
		v = append(v, p.num())
	}
	return v
}

func (p *parts) texts() (z []string) {
	for range p.many() {
		z = append(z, p.text())
	}
	return z
}

func (p *parts) dot() (d api.Dot) {
	d.Node = p.num()
	d.Seq = p.num()
	d.At = p.num()
	return d
}

func (p *parts) item() (x api.Item) {
	x.Key = p.text()
	x.Field = p.text()
	x.Kind = p.num()
	x.Elem = p.text()
	x.N = p.whole()
	x.Dot = p.dot()
	return x
}

func (p *parts) eff() (e api.Eff) {
	e.At = p.num()
	e.Key = p.text()
	e.Field = p.text()
	e.Kind = p.num()
	e.Elem = p.text()
	e.N = p.whole()
	for range p.many() {
		e.Drops = append(e.Drops, p.dot())
	}
	return e
}

func (p *parts) txn() (t api.Txn) {
	t.Node = p.num()
	t.Seq = p.num()
	t.Deps = p.nums()
	for range p.many() {
		t.Effs = append(t.Effs, p.eff())
	}
	return t
}

// readOf is what the document says of Read.
func readOf(b []byte) (m api.Msg, err api.Errno) {
	defer func() {
		if e, stopped := recover().(api.Errno); stopped {
			m, err = api.Msg{}, e
		}
	}()
	p := parts{b: b}
	m.Kind = p.num()
	m.Ticket = p.num()
	whole := p.num()
	m.Whole = whole == 1
	m.Vec = p.nums()
	m.From = p.nums()
	m.Zone = p.texts()
	m.Want = p.texts()
	for range p.many() {
		m.Items = append(m.Items, p.item())
	}
	for range p.many() {
		m.Txns = append(m.Txns, p.txn())
	}
	if whole > 1 || p.at < len(b) || !isFormed(m) {
		return api.Msg{}, api.ErrForm
	}
	return m, api.OK
}

// sameEff, sameTxn and same tell whether two are the same, lists that are nil like empty ones.
func sameEff(a, b api.Eff) bool {
	return a.At == b.At && a.Key == b.Key && a.Field == b.Field && a.Kind == b.Kind && a.Elem == b.Elem && a.N == b.N && slices.Equal(a.Drops, b.Drops)
}

func sameTxn(a, b api.Txn) bool {
	return a.Node == b.Node && a.Seq == b.Seq && slices.Equal(a.Deps, b.Deps) && slices.EqualFunc(a.Effs, b.Effs, sameEff)
}

func same(a, b api.Msg) bool {
	return a.Kind == b.Kind && a.Ticket == b.Ticket && a.Whole == b.Whole && slices.Equal(a.Vec, b.Vec) && slices.Equal(a.From, b.From) &&
		slices.Equal(a.Zone, b.Zone) && slices.Equal(a.Want, b.Want) && slices.Equal(a.Items, b.Items) && slices.EqualFunc(a.Txns, b.Txns, sameTxn)
}

// short tells a value, no longer than one can read.
func short(v any) string {
	if b, isBytes := v.([]byte); isBytes {
		return cutText(fmt.Sprintf("%x", b[:min(len(b), 600)]))
	}
	if m, isMsg := v.(api.Msg); isMsg && len(m.Items)+len(m.Txns) > 50 {
		return fmt.Sprintf("{a message of kind %d, %d items, %d transactions}", m.Kind, len(m.Items), len(m.Txns))
	}
	return cutText(fmt.Sprintf("%+q", fmt.Sprintf("%+v", v)))
}

func cutText(s string) string {
	if len(s) > 1000 {
		return s[:1000] + ".."
	}
	return s
}

func checkFormed(t *testing.T, m api.Msg, want bool) {
	t.Helper()
	if got := Formed(m); got != want {
		t.Fatalf("Formed(%s) = %t; want %t", short(m), got, want)
	}
}

// checkWordsOf holds Formed against what the document says, and tells it.
func checkWordsOf(t *testing.T, m api.Msg) bool {
	t.Helper()
	want := isFormed(m)
	checkFormed(t, m, want)
	return want
}

func checkPut(t *testing.T, m api.Msg, want []byte) {
	t.Helper()
	got, err := Put(m)
	if !bytes.Equal(got, want) || err != api.OK {
		t.Fatalf("Put(%s) = %s, %d; want %s", short(m), short(got), err, short(want))
	}
}

func checkPutErr(t *testing.T, m api.Msg) {
	t.Helper()
	got, err := Put(m)
	if len(got) != 0 || err != api.ErrForm {
		t.Fatalf("Put(%s) = %s, %d; want nothing, ErrForm", short(m), short(got), err)
	}
}

func checkRead(t *testing.T, b []byte, want api.Msg) {
	t.Helper()
	got, err := Read(b)
	if !same(got, want) || err != api.OK {
		t.Fatalf("Read(%s) = %s, %d; want %s", short(b), short(got), err, short(want))
	}
}

func checkReadErr(t *testing.T, b []byte) {
	t.Helper()
	got, err := Read(b)
	if !same(got, api.Msg{}) || err != api.ErrForm {
		t.Fatalf("Read(%s) = %s, %d; want nothing, ErrForm", short(b), short(got), err)
	}
}

// checkWords holds Read against what the document says, and tells whether there is a message.
func checkWords(t *testing.T, b []byte) bool {
	t.Helper()
	want, err := readOf(b)
	if err != api.OK {
		checkReadErr(t, b)
		return false
	}
	checkRead(t, b, want)
	return true
}

// rows are all lists of at most so many of these.
func rows[T any](most int, of ...T) [][]T {
	l := [][]T{nil}
	for from := 0; most > 0; most-- {
		end := len(l)
		for _, row := range l[from:end] {
			for _, x := range of {
				l = append(l, append(slices.Clone(row), x))
			}
		}
		from = end
	}
	return l
}

// orders are all rows of all of these.
func orders[T any](l []T) [][]T {
	if len(l) == 0 {
		return [][]T{nil}
	}
	var all [][]T
	for i, x := range l {
		rest := slices.Delete(slices.Clone(l), i, i+1)
		for _, row := range orders(rest) {
			all = append(all, append([]T{x}, row...))
		}
	}
	return all
}

// chance answers numbers below what it is asked, always the same ones for a seed.
func chance(seed uint32) func(below int) int {
	state := seed*2654435761 + 12345
	return func(below int) int {
		state = state*1664525 + 1013904223
		return int(state >> 8 % uint32(below))
	}
}

// pick is one of these.
func pick[T any](next func(int) int, l ...T) T { return l[next(len(l))] }

// zones are lists of texts, in their one form.
func zones() [][]string {
	return [][]string{nil, {}, {""}, {"a"}, {"b"}, {"a", "b"}, {"a/", "b"}, {"a/b", "c"}, {"/"}, {"0", "a", "b", "c", "d", "e", "f", "g"}, {strings.Repeat("a", 16)}, {"a", strings.Repeat("k", 16)}}
}

// noZones are such as are not in their one form.
func noZones() [][]string {
	return [][]string{
		{"b", "a"}, {"a", "a"}, {"", ""}, {"", "a"}, {"a", ""}, {"a", "a/b"}, {"a/b", "a"}, {"A"}, {"a", "b "}, {"\xff"}, {"a\x00"}, {strings.Repeat("a", 17)}, {"a", strings.Repeat("k", 17)},
		{"0", "a", "b", "c", "d", "e", "f", "g", "h"}, {"a", "b", "c", "d", "e", "f", "g", "h", "h"}, {"a", "b", "c", "d", "e", "f", "h", "g"}, {"a", "b", "c", "bb"},
	}
}

// someVec is a vector of few nodes.
func someVec(next func(int) int) api.Vec {
	v := make(api.Vec, next(5))
	for i := range v {
		v[i] = next(4) * pick(next, 1, 1, 100)
	}
	return cut(v)
}

// someItems are items under z, heard by v, in their one form.
func someItems(next func(int) int, v api.Vec, z []string) []api.Item {
	var l []api.Item
	for range next(6) * len(v) * len(z) {
		node := next(len(v))
		if v[node] == 0 {
			continue
		}
		x := elem(someKey(next, z), "", node, 1+next(v[node]), next(8))
		x.Field, x.Kind = strings.Repeat("f", next(3)), 1+next(3)
		if x.Kind == 3 {
			x.N = int64(next(1<<20)-1<<19) << next(40)
		} else {
			x.Elem = strings.Repeat("e\x00", next(17))
		}
		l = append(l, x)
	}
	return item.Norm(l)
}

// someKey is a key under z, or another one where it has no text.
func someKey(next func(int) int, z []string) string {
	if len(z) == 0 {
		return "a"
	}
	s := pick(next, z...)
	if s == "" || len(s) < 16 && next(3) == 0 {
		s += pick(next, "a", "/", "7")
	}
	return s
}

// someDeps are Deps within what is heard, of a transaction of node.
func someDeps(next func(int) int, heard api.Vec, node int) api.Vec {
	deps := slices.Clone(heard)
	for other, n := range deps {
		if other != node {
			deps[other] = n * next(3) / 2
		}
	}
	return cut(deps)
}

// someChain is a row of transactions that are formed, on keys under z, from what is heard on, and what is heard behind them.
func someChain(next func(int) int, from api.Vec, z []string, n int) ([]api.Txn, api.Vec) {
	heard := append(slices.Clone(from), eights(0)...)[:8]
	var l []api.Txn
	for range n {
		node := next(5)
		t := of(node, heard[node]+1, someDeps(next, heard, node))
		for at := next(4); at < 8 && len(z) > 0; at += 1 + next(6) {
			e := add(at, someKey(next, z), strings.Repeat("x", next(5)), someDrops(next, t)...)
			switch next(4) {
			case 0:
				e.Kind, e.Elem, e.N = 3, "", int64(next(1000)-500)
			case 1:
				e.Kind = 2
			case 2:
				if len(e.Drops) > 0 {
					e.Kind, e.Elem = 0, ""
				}
			}
			t.Effs = append(t.Effs, e)
		}
		heard[node]++
		l = append(l, t)
	}
	return l, cut(heard)
}

// someDrops are dots that the Deps of t have heard.
func someDrops(next func(int) int, t api.Txn) []api.Dot {
	var l []api.Dot
	for node, n := range t.Deps {
		if n > 0 && next(2) == 0 {
			l = append(l, dot(node, 1+next(n), next(8)))
		}
	}
	return l
}

// someRight is a message of few values of each part, which is formed.
func someRight(next func(int) int) api.Msg {
	v, has, wants := someVec(next), pick(next, zones()...), pick(next, zones()...)
	ticket := pick(next, 0, 1, 127, 128, next(1000), maxSeq)
	chain, end := someChain(next, v, wants, next(5))
	switch kind := 1 + next(6); kind {
	case pull:
		return pulling(ticket, next(2) == 0, v, has, wants)
	case push:
		return pushing(ticket, v, wants, someItems(next, v, wants)...)
	case delta:
		return leading(ticket, v, end, wants, chain...)
	case ask:
		return asking(v...)
	default:
		return telling(kind, chain...)
	}
}

// blotted is m with some of its parts changed, on its own memory; it may be formed all the same.
func blotted(m api.Msg, next func(int) int) api.Msg {
	m = own(m)
	for range 1 + next(2) {
		switch next(9) {
		case 0:
			m.Kind = next(8)
		case 1:
			m.Ticket = pick(next, ints()...)
		case 2:
			m.Whole = !m.Whole
		case 3:
			m.Vec = blottedList(m.Vec, next, pick(next, -1, 0, 1, 2, 300, maxSeq, maxSeq+1))
		case 4:
			m.From = blottedList(m.From, next, pick(next, -1, 0, 1, 2, 300, maxSeq, maxSeq+1))
		case 5:
			m.Zone = blottedList(m.Zone, next, pick(next, "", "a", "a/b", "b", "z", "B"))
		case 6:
			m.Want = blottedList(m.Want, next, pick(next, "", "a", "a/b", "b", "z", "B"))
		case 7:
			m.Items = blottedList(m.Items, next, pick(next, everyItems()...))
		case 8:
			m.Txns = blottedList(m.Txns, next, pick(next, append(everyTxns(), api.Txn{}, of(1, 1, nil, add(0, "B", "x")))...))
		}
	}
	return m
}

// blottedList is l with x in it, or without one, or with two changed for each other.
func blottedList[T any](l []T, next func(int) int, x T) []T {
	if len(l) == 0 {
		return []T{x}
	}
	at, other := next(len(l)), next(len(l))
	switch next(5) {
	case 0:
		return slices.Insert(l, at, x)
	case 1:
		return append(l, x)
	case 2:
		return slices.Delete(l, at, at+1)
	case 3:
		l[at], l[other] = l[other], l[at]
	default:
		l[at] = x
	}
	return l
}

// someRights are messages that are formed, n of them.
func someRights(n int) []api.Msg {
	l := make([]api.Msg, n)
	for seed := range l {
		l[seed] = someRight(chance(uint32(seed)))
	}
	return l
}

// some is a message that is often formed.
func some(next func(int) int) api.Msg {
	m := someRight(next)
	if next(2) == 0 {
		return m
	}
	return blotted(m, next)
}

func TestP17_1FormedKnown(t *testing.T) {
	for _, m := range append(rights(), someRights(3000)...) {
		checkFormed(t, m, true)
	}
	for _, m := range slices.Concat(wrongs(), unputs()) {
		checkFormed(t, m, false)
	}
	// What the words of these tests take for formed is what they say by hand.
	for _, m := range append(odds(), someRights(3000)...) {
		checkWordsOf(t, m)
	}
}

func TestP17_1FormedByKind(t *testing.T) {
	for _, kind := range ints() {
		checkFormed(t, api.Msg{Kind: kind}, kind >= 1 && kind <= 6)
		checkFormed(t, api.Msg{Kind: kind, Vec: api.Vec{}, From: api.Vec{}, Zone: under(), Want: under(), Items: []api.Item{}, Txns: []api.Txn{}}, kind >= 1 && kind <= 6)
		for _, m := range rights() {
			m.Kind = kind
			checkWordsOf(t, m)
		}
		// The same message under another kind.
		checkFormed(t, telling(kind, of(0, 1, nil)), kind == send || kind == fill)
		checkFormed(t, api.Msg{Kind: kind, Vec: api.Vec{1}}, kind == ask || kind == pull || kind == push)
		checkFormed(t, api.Msg{Kind: kind, Vec: api.Vec{1}, From: api.Vec{1}}, kind == delta)
		checkFormed(t, api.Msg{Kind: kind, Ticket: 1, Vec: api.Vec{1}, Want: under("a")}, kind == pull || kind == push)
	}
}

// sets are ways of setting one field, each to something that may stand there.
func sets() map[string][]func(m *api.Msg) {
	x := elem("a", "x", 0, 1, 0)
	return map[string][]func(m *api.Msg){
		"Ticket": {func(m *api.Msg) { m.Ticket = 1 }, func(m *api.Msg) { m.Ticket = maxSeq }},
		"Whole":  {func(m *api.Msg) { m.Whole = true }},
		"Vec":    {func(m *api.Msg) { m.Vec = api.Vec{1} }, func(m *api.Msg) { m.Vec = api.Vec{0, 5} }},
		"From":   {func(m *api.Msg) { m.From = api.Vec{1} }, func(m *api.Msg) { m.From = m.Vec }},
		"Zone":   {func(m *api.Msg) { m.Zone = under("") }, func(m *api.Msg) { m.Zone = under("a", "b") }, func(m *api.Msg) { m.Zone = m.Want }},
		"Want":   {func(m *api.Msg) { m.Want = under("") }, func(m *api.Msg) { m.Want = under("a", "b") }},
		"Items":  {func(m *api.Msg) { m.Items = []api.Item{x} }, func(m *api.Msg) { m.Items = everyItems() }},
		"Txns":   {func(m *api.Msg) { m.Txns = []api.Txn{of(0, 1, nil)} }, func(m *api.Msg) { m.Txns = everyTxns() }, func(m *api.Msg) { m.Txns = []api.Txn{of(3, 1, nil, add(0, "a", "x"))} }},
	}
}

func TestP17_1FormedByWhatIsNotNamed(t *testing.T) {
	beside := 0
	for _, base := range append(rights(), api.Msg{Kind: send}, api.Msg{Kind: fill}, api.Msg{Kind: ask}, api.Msg{Kind: pull}, api.Msg{Kind: push}, api.Msg{Kind: delta}) {
		for field, ways := range sets() {
			for _, set := range ways {
				m := base
				set(&m)
				if slices.Contains(namedBy(m.Kind), field) || !saysBeside(m) {
					checkWordsOf(t, m)
					continue
				}
				checkFormed(t, m, false)
				checkPutErr(t, m)
				beside++
			}
		}
	}
	if beside < 300 {
		t.Fatalf("only %d messages say something beside what their kind names", beside)
	}
	// Each kind and each field that it doesn't name, in a message that is empty else.
	for kind := 1; kind <= 6; kind++ {
		for field, ways := range sets() {
			m := api.Msg{Kind: kind, Want: under("a"), Vec: api.Vec{1}}
			if kind == delta {
				m.From = m.Vec
			}
			if kind == send || kind == fill || kind == ask {
				m = api.Msg{Kind: kind}
			}
			checkFormed(t, m, true)
			ways[0](&m)
			switch named := slices.Contains(namedBy(kind), field); {
			case !named:
				checkFormed(t, m, false)
			case kind != delta:
				checkFormed(t, m, true)
			}
		}
	}
}

func TestP17_1FormedByTicket(t *testing.T) {
	for _, n := range ints() {
		may := n >= 0 && n <= maxSeq
		for _, m := range rights() {
			m.Ticket = n
			asked := m.Kind == pull || m.Kind == push || m.Kind == delta
			checkFormed(t, m, may && asked || n == 0)
		}
	}
}

// withVec are messages of each kind that names Vec, and of Delta that names From, with v there.
func withVec(v api.Vec) []api.Msg {
	return []api.Msg{asking(v...), pulling(3, true, v, under("a"), under("b")), pushing(3, v, under("a")), leading(3, v, v, under("a"))}
}

func TestP17_1FormedByEachNumberOfVec(t *testing.T) {
	for node := range 8 {
		for _, n := range ints() {
			for _, rest := range []int{0, 1, maxSeq} {
				v := eights(rest)
				v[node] = n
				want := n >= 0 && n <= maxSeq && v[7] != 0
				for _, m := range withVec(v) {
					checkFormed(t, m, want)
				}
				// In the first nodes alone, the one that is set the last of them.
				v = v[:node+1]
				for _, m := range withVec(v) {
					checkFormed(t, m, n >= 1 && n <= maxSeq)
				}
			}
		}
	}
}

func TestP17_1FormedByHowManyNumbers(t *testing.T) {
	for n := range 30 {
		v := slices.Repeat(api.Vec{1}, n)
		for _, zeros := range []int{0, 1, 2, 9} {
			with := append(slices.Clone(v), make(api.Vec, zeros)...)
			for _, m := range withVec(with) {
				checkFormed(t, m, n <= 8 && zeros == 0)
			}
			for _, m := range withVec(append(with, 7)) {
				checkFormed(t, m, n+zeros <= 7)
			}
		}
	}
}

func TestP17_1FormedByAllShortVecs(t *testing.T) {
	yes := 0
	vectors := rows(3, -1, 0, 1, 2, maxSeq, maxSeq+1)
	for _, v := range vectors {
		for _, m := range withVec(v) {
			checkFormed(t, m, isVector(v))
		}
		for _, from := range vectors {
			m := leading(0, from, v, nil)
			if checkWordsOf(t, m) != (isVector(v) && slices.Equal(v, from)) {
				t.Fatalf("the words of these tests don't take Vec for From in %s", short(m))
			}
			m.Txns = []api.Txn{of(1, 1, nil)}
			if checkWordsOf(t, m) {
				yes++
			}
		}
	}
	if yes < 5 {
		t.Fatalf("only %d of these are formed with a transaction", yes)
	}
}

func TestP17_1FormedByZones(t *testing.T) {
	v := api.Vec{1}
	for _, z := range append(zones(), noZones()...) {
		may := isZone(z)
		for _, other := range append(zones(), noZones()...) {
			checkFormed(t, pulling(1, false, v, z, other), may && isZone(other))
			checkFormed(t, pulling(1, true, v, other, z), may && isZone(other))
		}
		checkFormed(t, pushing(1, v, z), may)
		checkFormed(t, leading(1, v, v, z), may)
		checkFormed(t, pushing(1, v, z, elem("a", "x", 0, 1, 0)), may && begins(z, "a"))
		checkFormed(t, leading(1, v, api.Vec{2}, z, of(0, 2, v, add(0, "a", "x"))), may && begins(z, "a"))
		checkFormed(t, leading(1, v, api.Vec{2}, z, of(0, 2, v)), may)
	}
	for _, z := range zones() {
		if !isZone(z) {
			t.Fatalf("%q is no zone", z)
		}
	}
	for _, z := range noZones() {
		if isZone(z) {
			t.Fatalf("%q is a zone", z)
		}
	}
}

func TestP17_1FormedByHowManyTxns(t *testing.T) {
	for _, n := range []int{0, 1, 2, 100, 4095, 4096, 4097, 4098, 8192} {
		for _, kind := range []int{send, fill} {
			checkFormed(t, telling(kind, manyTxns(n)...), n <= 4096)
			checkFormed(t, telling(kind, slices.Repeat([]api.Txn{of(1, 1, nil)}, n)...), n <= 4096)
		}
		checkFormed(t, leading(1, nil, cut(api.Vec{n}), nil, manyTxns(n)...), n <= 4096)
		if n > 0 {
			checkFormed(t, leading(1, nil, api.Vec{n - 1}, nil, manyTxns(n)...), false)
		}
	}
}

// noTxns are transactions that are not formed.
func noTxns() []api.Txn {
	return []api.Txn{
		{}, of(8, 1, nil), of(-1, 1, nil), of(0, 0, nil), of(0, 2, nil), of(0, 1, api.Vec{1}), of(0, maxSeq+1, api.Vec{maxSeq}), of(0, 1, api.Vec{0, 0}), of(0, 1, api.Vec{0, -1}), of(0, 1, api.Vec{0, maxSeq + 1}),
		of(0, 2, append(eights(1), 1)), of(0, 1, nil, add(0, "", "x")), of(0, 1, nil, add(8, "a", "x")), of(0, 1, nil, del(0, "a")), of(0, 1, nil, add(0, "a", "x"), add(0, "a", "x")), of(0, 1, nil, add(0, "a", "x", dot(1, 1, 0))),
	}
}

func TestP17_1FormedByEachTxn(t *testing.T) {
	for _, bad := range noTxns() {
		for _, kind := range []int{send, fill, delta} {
			for _, n := range []int{1, 2, 5} {
				for at := range n {
					l := manyTxns(n)
					l[at] = bad
					m := telling(kind, l...)
					if kind == delta {
						m = leading(1, nil, api.Vec{n}, under(""), l...)
					}
					checkFormed(t, m, false)
					checkPutErr(t, m)
				}
			}
		}
	}
	for _, at := range []int{0, 1, 2047, 4094, 4095} {
		for _, bad := range noTxns() {
			l := manyTxns(4096)
			l[at] = bad
			checkFormed(t, telling(send, l...), false)
		}
	}
	// A Send's and a Fill's need not be a chain, nor unlike.
	for _, l := range orders(everyTxns()) {
		checkFormed(t, telling(send, l...), true)
		checkFormed(t, telling(fill, append(l, l...)...), true)
	}
}

func TestP17_1FormedByHowManyItems(t *testing.T) {
	for _, n := range []int{0, 1, 2, 100, 32767, 32768, 32769, 65536} {
		checkFormed(t, pushing(1, api.Vec{maxSeq}, under("a"), manyItems(n)...), n <= 32768)
		checkFormed(t, pushing(1, api.Vec{(n + 7) / 8, 1}, under("a"), manyItems(n)...), n <= 32768)
		if n > 0 {
			checkFormed(t, pushing(1, api.Vec{(n+7)/8 - 1, 1}, under("a"), manyItems(n)...), false)
		}
	}
}

func TestP17_1FormedByEachItem(t *testing.T) {
	// One item is turned into one that may not be there, each at each place.
	turns := []func(x *api.Item){
		func(x *api.Item) { x.Key = "" }, func(x *api.Item) { x.Key = "A" }, func(x *api.Item) { x.Key += "?" }, func(x *api.Item) { x.Key = x.Key + strings.Repeat("a", 17-len(x.Key)) },
		func(x *api.Item) { x.Key = "d" }, func(x *api.Item) { x.Key = "b" }, func(x *api.Item) { x.Key = "0" }, func(x *api.Item) { x.Field = "F" }, func(x *api.Item) { x.Field = strings.Repeat("f", 17) },
		func(x *api.Item) { x.Kind = 0 }, func(x *api.Item) { x.Kind = 4 }, func(x *api.Item) { x.Kind = -1 }, func(x *api.Item) { x.Elem, x.N = strings.Repeat("e", 33), 0 }, func(x *api.Item) { x.Elem, x.N = "e", 1 },
		func(x *api.Item) { x.Dot.Node = 1 }, func(x *api.Item) { x.Dot.Node = 3 }, func(x *api.Item) { x.Dot.Node = 8 }, func(x *api.Item) { x.Dot.Node = -1 },
		func(x *api.Item) { x.Dot.Seq = 0 }, func(x *api.Item) { x.Dot.Seq = -1 }, func(x *api.Item) { x.Dot.Seq = 301 }, func(x *api.Item) { x.Dot.Seq = maxSeq + 1 }, func(x *api.Item) { x.Dot = dot(0, 5, 0) },
		func(x *api.Item) { x.Dot.At = -1 }, func(x *api.Item) { x.Dot.At = 8 },
	}
	for i, turn := range turns {
		for at := range everyItems() {
			l := everyItems()
			checkFormed(t, pushing(1, api.Vec{4, 0, 300}, under("a", "b/", "c"), l...), true)
			turn(&l[at])
			m := pushing(1, api.Vec{4, 0, 300}, under("a", "b/", "c"), l...)
			if Formed(m) || isFormed(m) {
				t.Fatalf("with item %d turned by %d Formed(%s) = %t", at, i, short(m), Formed(m))
			}
			checkPutErr(t, m)
		}
	}
	// With each item but one covered, or heard.
	for _, x := range everyItems() {
		for _, z := range [][]string{under("a", "b/"), under("a", "c"), under("a/", "b/", "c"), under("b/", "c"), under("a/b", "b/", "c"), under("b", "c"), under("a", "b", "c"), under("")} {
			checkFormed(t, pushing(1, api.Vec{4, 0, 300}, z, x), begins(z, x.Key))
			checkFormed(t, pushing(1, api.Vec{4, 0, 300}, z, everyItems()...), z[0] == "" || len(z) == 3 && z[1] == "b")
		}
		for _, v := range []api.Vec{nil, {3, 0, 300}, {4, 0, 299}, {4, 300}, {0, 0, 300}, {4}, {5, 1, 301}} {
			checkFormed(t, pushing(1, v, under("a", "b/", "c"), x), x.Dot.Node < len(v) && v[x.Dot.Node] >= x.Dot.Seq)
			checkFormed(t, pushing(1, v, under("a", "b/", "c"), everyItems()...), len(v) == 3 && v[0] == 5)
		}
	}
}

func TestP17_1FormedByTheOrderOfItems(t *testing.T) {
	// All orders of items: but one of them is the one form, whichever part of them tells.
	bases := [][]api.Item{
		everyItems()[:5],
		{elem("a", "x", 0, 1, 0), elem("a/", "x", 0, 1, 1), elem("aa", "x", 0, 1, 2), elem("b", "x", 0, 1, 3)},
		{elem("a", "x", 0, 9, 7), in("f", elem("a", "x", 0, 8, 6)), in("ff", elem("a", "x", 0, 7, 5)), in("g", elem("a", "x", 0, 6, 4))},
		{elem("a", "x", 2, 9, 7), reg("a", "x", 1, 8, 6), count("a", 1, 0, 7, 5)},
		{elem("a", "z", 0, 1, 0), elem("a", "y", 0, 1, 7), elem("a", "x", 0, 2, 0), elem("a", "w", 1, 1, 0)},
	}
	for _, base := range bases {
		yes := 0
		for _, l := range orders(base) {
			want := slices.Equal(l, base)
			checkFormed(t, pushing(1, api.Vec{9, 9, 300}, under(""), l...), want)
			if want {
				yes++
			}
		}
		if yes != 1 {
			t.Fatalf("%v has its one form in %d orders", base, yes)
		}
		// One with the dot of another one, or twice.
		for i, x := range base {
			for j := range base {
				if i == j {
					continue
				}
				l := slices.Clone(base)
				l[j].Dot = x.Dot
				slices.SortFunc(l, func(a, b api.Item) int {
					if item.Less(a, b) {
						return -1
					}
					return 1
				})
				checkFormed(t, pushing(1, api.Vec{9, 9, 300}, under(""), l...), false)
			}
			checkFormed(t, pushing(1, api.Vec{9, 9, 300}, under(""), slices.Insert(slices.Clone(base), i, x)...), false)
		}
	}
	long := manyItems(32768)
	long[32767].Dot = long[0].Dot
	long[32767].Elem = "y"
	checkFormed(t, pushing(1, api.Vec{maxSeq}, under("a"), long...), false)
	long[32767].Key = "b"
	checkFormed(t, pushing(1, api.Vec{maxSeq}, under("a", "b"), long...), false)
	long[32767].Dot.Seq = maxSeq
	checkFormed(t, pushing(1, api.Vec{maxSeq}, under("a", "b"), long...), true)
}

// chained is the Delta of everyTxns with these ones.
func chained(l ...api.Txn) api.Msg {
	return leading(1, api.Vec{1, 0, 2}, api.Vec{2, 1, 3, 2}, under("a", "b"), l...)
}

func TestP17_1FormedByTheChain(t *testing.T) {
	checkFormed(t, chained(everyTxns()...), true)
	yes := 0
	for _, l := range orders(everyTxns()) {
		if checkWordsOf(t, chained(l...)) {
			yes++
		}
	}
	// The first two and the fourth hang on none of these, the third on the first two, the fifth on all others.
	if yes != 8 {
		t.Fatalf("%d orders are chains", yes)
	}
	for at := range everyTxns() {
		checkFormed(t, chained(slices.Delete(everyTxns(), at, at+1)...), false)
		for _, x := range everyTxns() {
			checkFormed(t, chained(slices.Insert(everyTxns(), at, x)...), false)
		}
	}
}

func TestP17_1FormedByEachTxnOfTheChain(t *testing.T) {
	// One transaction is turned, all others stay, and it is formed itself.
	turns := []func(x *api.Txn){
		func(x *api.Txn) { x.Seq++; x.Deps = said(x.Deps, x.Node, x.Seq-1); x.Effs = nil },
		func(x *api.Txn) { x.Seq += 100; x.Deps = said(x.Deps, x.Node, x.Seq-1) },
		func(x *api.Txn) { x.Seq = maxSeq; x.Deps = said(x.Deps, x.Node, maxSeq-1) },
		func(x *api.Txn) { x.Node = 5; x.Seq = 2; x.Deps = said(x.Deps, 5, 1); x.Effs = nil },
		func(x *api.Txn) { x.Node = 7; x.Seq = 1; x.Effs = nil },
		func(x *api.Txn) { x.Deps = said(x.Deps, 4, 1) },
		func(x *api.Txn) { x.Deps = said(x.Deps, 7, maxSeq) },
		func(x *api.Txn) { x.Deps = said(x.Deps, (x.Node+1)%4, 300) },
		func(x *api.Txn) { x.Effs = append(x.Effs, inc(7, "c", 1)) },
		func(x *api.Txn) { x.Effs = append(x.Effs, inc(7, "0", 1)) },
		func(x *api.Txn) { x.Effs = []api.Eff{inc(0, "c", 1), inc(1, "a", 1)} },
		func(x *api.Txn) { x.Effs = []api.Eff{inc(0, "a", 1), inc(1, "/a", 1), inc(2, "b", 1)} },
	}
	for i, turn := range turns {
		for at := range everyTxns() {
			l := everyTxns()
			turn(&l[at])
			if !txn.Formed(l[at]) {
				t.Fatalf("turned by %d %s is not formed", i, short(l[at]))
			}
			m := chained(l...)
			if Formed(m) || isFormed(m) {
				t.Fatalf("with transaction %d turned by %d Formed(%s) = %t", at, i, short(m), Formed(m))
			}
			checkPutErr(t, m)
		}
	}
	// Without effects, each by itself, and all.
	none := everyTxns()
	for at := range everyTxns() {
		l := everyTxns()
		l[at].Effs = nil
		none[at].Effs = []api.Eff{}
		checkFormed(t, chained(l...), true)
		checkFormed(t, chained(none...), true)
	}
	m := chained(none...)
	m.Want = nil
	checkFormed(t, m, true)
	m.Txns = everyTxns()
	checkFormed(t, m, false)
}

// said is v with n of node, with no zeros at its end.
func said(v api.Vec, node, n int) api.Vec {
	v = append(slices.Clone(v), eights(0)...)[:8]
	v[node] = n
	return cut(v)
}

func TestP17_1FormedByWhatIsHeard(t *testing.T) {
	// Vec is more or less than what is heard behind the transactions, in one place; and so is From.
	m := chained(everyTxns()...)
	for node := range 8 {
		for _, more := range []int{-2, -1, 1, 2, 100, maxSeq} {
			other := m
			n := more
			if node < len(m.Vec) {
				n += m.Vec[node]
			}
			other.Vec = said(m.Vec, node, n)
			checkFormed(t, other, false)
			other.Vec = m.Vec
			n = more
			if node < len(m.From) {
				n += m.From[node]
			}
			other.From = said(m.From, node, n)
			checkFormed(t, other, false)
			checkPutErr(t, other)
		}
		// Of a node that has no transaction there, From and Vec may both say more.
		other := m
		other.From, other.Vec = said(m.From, node, 9), said(m.Vec, node, 9)
		checkFormed(t, other, node > 3)
	}
	for _, v := range []api.Vec{m.From, nil, {2, 1, 3}, {2, 1, 3, 2, 0}, {2, 1, 3, 2, 0, 0, 0, 0}, {2, 1, 3, 1}, {2, 0, 3, 2}} {
		other := m
		other.Vec = v
		checkFormed(t, other, false)
	}
}

func TestP17_1FormedWithoutTxns(t *testing.T) {
	vectors := []api.Vec{nil, {}, {1}, {2}, {0, 1}, {1, 1}, {1, 0, 1}, eights(1), eights(maxSeq), eights(maxSeq)[1:]}
	for _, from := range vectors {
		for _, to := range vectors {
			checkFormed(t, leading(1, from, to, under("a")), slices.Equal(from, to))
			checkFormed(t, leading(0, from, to, nil), slices.Equal(from, to))
		}
	}
}

func TestP17_1FormedOfSome(t *testing.T) {
	yes, no := [7]int{}, [8]int{}
	for seed := range uint32(40000) {
		m := some(chance(seed))
		if checkWordsOf(t, m) {
			yes[m.Kind]++
		} else if m.Kind < 8 {
			no[m.Kind]++
		}
	}
	for kind := 1; kind <= 6; kind++ {
		if yes[kind] < 1000 || no[kind] < 1000 {
			t.Fatalf("of kind %d %d are formed, %d are not", kind, yes[kind], no[kind])
		}
	}
}

func TestP17_1FormedOfLongLists(t *testing.T) {
	text := strings.Repeat("a", 1<<24)
	vector := slices.Repeat(api.Vec{1}, 1<<20)
	for _, m := range []api.Msg{
		asking(vector...), asking(make(api.Vec, 1<<20)...), pulling(1, true, vector, nil, nil), leading(1, vector, vector, nil), leading(1, vector, vector, under("a"), manyTxns(4096)...),
		pulling(1, true, nil, slices.Repeat(under("a"), 1<<20), nil), pulling(1, true, nil, nil, slices.Repeat(under(text), 1<<12)), pulling(1, true, nil, under(text), under(text, text+"a")),
		telling(send, slices.Repeat([]api.Txn{full()}, 1<<18)...), leading(1, nil, api.Vec{1 << 18}, nil, manyTxns(1<<18)...),
		pushing(1, api.Vec{maxSeq}, under("a"), manyItems(1<<20)...), pushing(1, api.Vec{maxSeq}, under(""), slices.Repeat([]api.Item{elem(text, text, 0, 1, 0)}, 1<<15)...),
		pushing(1, api.Vec{maxSeq}, under(""), slices.Repeat([]api.Item{elem("a", text, 0, 1, 0)}, 1<<15)...), pushing(1, api.Vec{maxSeq}, slices.Repeat(under(text), 1<<18), manyItems(1<<15)...),
	} {
		checkFormed(t, m, false)
		checkPutErr(t, m)
	}
}

// known are messages, and their bytes by hand.
func known() []struct {
	m api.Msg
	b []byte
} {
	return []struct {
		m api.Msg
		b []byte
	}{
		{asking(1, 0, 2), []byte{5, 0, 0, 3, 1, 0, 2, 0, 0, 0, 0, 0}},
		{asking(), []byte{5, 0, 0, 0, 0, 0, 0, 0, 0}},
		{telling(send), []byte{1, 0, 0, 0, 0, 0, 0, 0, 0}},
		{telling(fill), []byte{6, 0, 0, 0, 0, 0, 0, 0, 0}},
		{telling(send, of(1, 1, nil)), []byte{1, 0, 0, 0, 0, 0, 0, 0, 1, 1, 1, 0, 0}},
		{telling(fill, of(1, 1, nil), of(2, 301, api.Vec{0, 1, 300})), []byte{6, 0, 0, 0, 0, 0, 0, 0, 2, 1, 1, 0, 0, 2, 0xad, 2, 3, 0, 1, 0xac, 2, 0}},
		{telling(send, of(1, 1, nil, add(2, "k", "x"))), []byte{1, 0, 0, 0, 0, 0, 0, 0, 1, 1, 1, 0, 1, 2, 1, 'k', 0, 1, 1, 'x', 0, 0, 0, 0, 0, 0, 0, 0, 0}},
		{pulling(0, false, nil, nil, nil), []byte{2, 0, 0, 0, 0, 0, 0, 0, 0}},
		{pulling(300, true, api.Vec{7}, under("a/b", "c"), under("")), []byte{2, 0xac, 2, 1, 1, 7, 0, 2, 3, 'a', '/', 'b', 1, 'c', 1, 0, 0, 0}},
		{pulling(maxSeq, false, api.Vec{0, maxSeq}, nil, under("d")), []byte{2, 0x80, 0x80, 0x80, 0x80, 4, 0, 2, 0, 0x80, 0x80, 0x80, 0x80, 4, 0, 0, 1, 1, 'd', 0, 0}},
		{pushing(4, api.Vec{9}, under("a")), []byte{3, 4, 0, 1, 9, 0, 0, 1, 1, 'a', 0, 0}},
		{
			pushing(4, api.Vec{9, 1}, under("a"), in("fg", elem("a", "xy", 0, 8, 7)), count("ab", -2, 1, 1, 3)),
			[]byte{3, 4, 0, 2, 9, 1, 0, 0, 1, 1, 'a', 2, 1, 'a', 2, 'f', 'g', 1, 2, 'x', 'y', 0, 0, 0, 0, 0, 0, 0, 0, 0, 8, 7, 2, 'a', 'b', 0, 3, 0, 0xfe, 0xff, 0xff, 0xff, 0xff, 0xff, 0xff, 0xff, 1, 1, 3, 0},
		},
		{leading(5, api.Vec{1}, api.Vec{1}, under("a")), []byte{4, 5, 0, 1, 1, 1, 1, 0, 1, 1, 'a', 0, 0}},
		{
			leading(5, api.Vec{1}, api.Vec{2}, under("a"), of(0, 2, api.Vec{1}, inc(6, "a", 0x0102030405060708, dot(0, 1, 5)))),
			[]byte{4, 5, 0, 1, 2, 1, 1, 0, 1, 1, 'a', 0, 1, 0, 2, 1, 1, 1, 6, 1, 'a', 0, 3, 0, 8, 7, 6, 5, 4, 3, 2, 1, 1, 0, 1, 5},
		},
	}
}

func TestP17_2PutAndReadKnown(t *testing.T) {
	for _, c := range known() {
		checkFormed(t, c.m, true)
		checkPut(t, c.m, c.b)
		checkRead(t, c.b, c.m)
		if !bytes.Equal(bytesOf(c.m), c.b) {
			t.Fatalf("the words of these tests lay %s as %x", short(c.m), bytesOf(c.m))
		}
	}
}

func TestP17_1PutEach(t *testing.T) {
	for _, m := range append(rights(), someRights(3000)...) {
		checkPut(t, m, bytesOf(m))
	}
	checkPut(t, pushing(9, api.Vec{maxSeq}, under("a"), manyItems(32768)...), bytesOf(pushing(9, api.Vec{maxSeq}, under("a"), manyItems(32768)...)))
	checkPut(t, leading(9, nil, api.Vec{4096}, nil, manyTxns(4096)...), bytesOf(leading(9, nil, api.Vec{4096}, nil, manyTxns(4096)...)))
}

func TestP17_1PutOfNone(t *testing.T) {
	for _, m := range append(wrongs(), unputs()...) {
		checkPutErr(t, m)
	}
	n := 0
	for seed := range uint32(20000) {
		if m := some(chance(seed)); !isFormed(m) {
			checkPutErr(t, m)
			n++
		}
	}
	if n < 5000 {
		t.Fatalf("%d are not formed", n)
	}
}

func TestP17_2ReadOfNothing(t *testing.T) {
	checkReadErr(t, nil)
	checkReadErr(t, []byte{})
	checkReadErr(t, make([]byte, 0, 100))
}

func TestP17_2ReadCut(t *testing.T) {
	for _, m := range append(rights(), someRights(500)...) {
		b := bytesOf(m)
		for n := range b {
			checkReadErr(t, b[:n])
			checkReadErr(t, b[:n:n])
			checkReadErr(t, b[n+1:])
		}
		checkRead(t, b, m)
	}
}

func TestP17_2ReadWithMoreBehind(t *testing.T) {
	for _, m := range append(rights(), someRights(1000)...) {
		b := bytesOf(m)
		for _, more := range [][]byte{{0}, {1}, {0x80}, {0xff}, {0, 0, 0, 0}, {1, 1, 0, 0}, []byte("xyz"), b, make([]byte, 10000)} {
			checkReadErr(t, slices.Concat(b, more))
			if !bytes.Equal(more, b) {
				checkReadErr(t, slices.Concat(more, b))
			}
		}
		checkRead(t, b, m)
		// What stands behind the bytes as spare room is no part of them.
		checkRead(t, append(slices.Clone(b), 0, 0, 0)[:len(b)], m)
	}
}

func TestP17_2ReadNotFormed(t *testing.T) {
	for _, m := range wrongs() {
		checkReadErr(t, bytesOf(m))
	}
	n := 0
	for seed := range uint32(20000) {
		if m := some(chance(seed)); !isFormed(m) {
			// Of numbers below 0, and such that have no form, the library tells something else.
			checkWords(t, bytesOf(m))
			n++
		}
	}
	if n < 5000 {
		t.Fatalf("%d are not formed", n)
	}
	// More than there may be, with all of it there.
	for _, m := range []api.Msg{
		asking(slices.Repeat(api.Vec{1}, 9)...), asking(slices.Repeat(api.Vec{1}, 300)...), leading(0, slices.Repeat(api.Vec{1}, 9), slices.Repeat(api.Vec{1}, 9), nil),
		pulling(0, false, nil, under("a", "b", "c", "d", "e", "f", "g", "h", "i"), nil), pulling(0, false, nil, nil, under("a", "b", "c", "d", "e", "f", "g", "h", "i")),
		telling(send, manyTxns(4097)...), telling(fill, manyTxns(10000)...), leading(0, nil, api.Vec{4097}, nil, manyTxns(4097)...), pushing(0, api.Vec{maxSeq}, under("a"), manyItems(32769)...), pushing(0, api.Vec{maxSeq}, under("a"), manyItems(100000)...),
	} {
		checkReadErr(t, bytesOf(m))
	}
}

// over is the form of a number with one byte more than it has.
func over(n int) []byte {
	b := lay(n)
	b[len(b)-1] |= 0x80
	return append(b, 0)
}

// endless are bytes of which no number ends.
func endless(n int) []byte { return bytes.Repeat([]byte{0x80}, n) }

func TestP17_2ReadNumbersInAnotherForm(t *testing.T) {
	for _, m := range append(rights(), someRights(300)...) {
		all := partsOf(m)
		for i, part := range all {
			ahead, behind := lay(all[:i]...), lay(all[i+1:]...)
			var n int
			switch x := part.(type) {
			case int:
				n = x
			case many:
				n = x.n
			case string:
				n = len(x)
				behind = lay([]byte(x), behind)
			default:
				continue
			}
			checkRead(t, lay(ahead, n, behind), m)
			checkReadErr(t, lay(ahead, over(n), behind))
			checkReadErr(t, lay(ahead, endless(1), behind))
			checkReadErr(t, lay(ahead, endless(8), behind))
			checkReadErr(t, lay(ahead, endless(7), 0, behind))
			checkReadErr(t, lay(ahead, bytes.Repeat([]byte{0xff}, 8), 0, behind))
			checkReadErr(t, lay(ahead, 1<<56-1, behind))
			checkReadErr(t, lay(ahead, endless(9)))
			checkWords(t, lay(ahead, behind))
		}
	}
}

func TestP17_2ReadCountsOfMore(t *testing.T) {
	counts := 0
	for _, m := range append(rights(), someRights(500)...) {
		all := partsOf(m)
		for i, part := range all {
			x, isCount := part.(many)
			if !isCount {
				continue
			}
			ahead, behind := lay(all[:i]...), lay(all[i+1:]...)
			for _, n := range []int{x.n + 1, x.n + 2, x.most, x.most + 1, x.most + 2, 2 * x.most, 128, 300, 32768, 65536, 1 << 31, 1 << 32, 1<<32 + x.n, 1<<56 - 1} {
				if n == x.n {
					continue
				}
				b := lay(ahead, n, behind)
				checkWords(t, b)
				if len(behind) < n {
					checkReadErr(t, b)
				}
				checkReadErr(t, lay(ahead, n))
				checkReadErr(t, lay(ahead, n, make([]byte, 70)))
				counts++
			}
			for n := range min(x.n, 10) {
				checkWords(t, lay(ahead, n, behind))
			}
		}
	}
	if counts < 10000 {
		t.Fatalf("only %d counts are turned", counts)
	}
}

func TestP17_2ReadWhole(t *testing.T) {
	for _, m := range append(rights(), someRights(300)...) {
		all := partsOf(m)
		for _, n := range append(ints(), 256, 257) {
			if n < 0 || n >= 1<<56 {
				continue
			}
			all[2] = n
			b := lay(all...)
			other := m
			other.Whole = n == 1
			if n == 0 || n == 1 && m.Kind == pull {
				checkRead(t, b, other)
			} else {
				checkReadErr(t, b)
			}
		}
	}
}

func TestP17_2ReadTexts(t *testing.T) {
	room := bytes.Repeat([]byte{'a'}, 2*api.MaxText)
	for _, m := range every() {
		all := partsOf(m)
		for i, part := range all {
			s, isText := part.(string)
			if !isText {
				continue
			}
			ahead, behind := lay(all[:i]...), lay(all[i+1:]...)
			for n := range 20 {
				if n != len(s) {
					checkWords(t, lay(ahead, n, []byte(s), behind))
					checkReadErr(t, lay(ahead, n, []byte(s)))
				}
			}
			// A text that is longer than it may be, be it there or not.
			for _, n := range []int{33, 34, 127, 128, 1 << 14, api.MaxText - 1, api.MaxText, api.MaxText + 1, api.MaxText + 2, 1 << 17} {
				checkReadErr(t, lay(ahead, n, room[:n], behind))
				checkReadErr(t, lay(ahead, n, []byte(s), behind))
			}
			for _, n := range []int{1 << 31, 1 << 32, 1<<32 + len(s), 1<<56 - 1} {
				checkReadErr(t, lay(ahead, n, []byte(s), behind))
			}
		}
	}
}

func TestP17_2ReadTextsOfAllLengths(t *testing.T) {
	for n := range 200 {
		s, ascii := strings.Repeat("a\xff", 100)[:n], strings.Repeat("a", n)
		for i, m := range []api.Msg{
			pulling(1, true, nil, under(ascii), nil), pulling(1, true, nil, nil, under(ascii)), pushing(1, api.Vec{1}, under(""), elem(ascii, "x", 0, 1, 0)),
			pushing(1, api.Vec{1}, under(""), in(ascii, reg("a", "x", 0, 1, 0))), pushing(1, api.Vec{1}, under(""), reg("a", s, 0, 1, 0)), telling(send, of(1, 1, nil, add(3, "a", s))),
		} {
			may := []bool{n <= 16, n <= 16, n >= 1 && n <= 16, n <= 16, n <= 32, n <= 32}[i]
			checkFormed(t, m, may)
			if b := bytesOf(m); may {
				checkRead(t, b, m)
			} else {
				checkReadErr(t, b)
			}
		}
	}
}

func TestP17_2ReadEachByteTurned(t *testing.T) {
	yes := 0
	for _, m := range append(every(), telling(send), pulling(1, true, api.Vec{0, 1}, under(""), under("")), pushing(1, api.Vec{1}, under("a"), elem("a", "x", 0, 1, 0)), leading(7, nil, api.Vec{0, 1}, nil, of(1, 1, nil))) {
		b := bytesOf(m)
		for i := range b {
			for c := range 256 {
				other := slices.Clone(b)
				other[i] = byte(c)
				if checkWords(t, other) {
					yes++
				}
			}
		}
	}
	if yes < 5000 {
		t.Fatalf("only %d of these bytes are read", yes)
	}
}

func TestP17_2ReadAllShortBytes(t *testing.T) {
	yes := 0
	try := func(b []byte) {
		t.Helper()
		if checkWords(t, b) {
			yes++
		}
	}
	for kind := range byte(8) {
		for _, b := range rows[byte](8, 0, 1, 2) {
			try(lay([]byte{kind}, b))
		}
		for _, b := range rows[byte](5, 0, 1, 2, 'a', 0x80) {
			try(lay([]byte{kind, 0, 0}, b, []byte{0, 0}))
			try(lay([]byte{kind, 0, 0, 0}, b))
			try(lay([]byte{kind, 3, 0, 0, 0}, b))
			try(lay([]byte{kind, 3, 0, 1, 1, 1, 1, 0}, b))
		}
	}
	// Zones and transactions behind a head.
	for _, b := range rows[byte](7, 0, 1, 2, 'a', 'b') {
		try(lay([]byte{pull, 1, 1, 0, 0}, b, []byte{0, 0}))
	}
	for _, b := range rows[byte](6, 0, 1, 2, 7, 8) {
		try(lay([]byte{send, 0, 0, 0, 0, 0, 0, 0}, b))
		try(lay([]byte{delta, 0, 0, 1, 1, 0, 0, 0, 0}, b))
	}
	if yes < 100 {
		t.Fatalf("only %d of these bytes are read", yes)
	}
}

// turned is b with a few bytes changed, taken out, put in or doubled.
func turned(b []byte, next func(int) int) []byte {
	b = slices.Clone(b)
	for range 1 + next(3) {
		at := next(len(b) + 1)
		switch next(6) {
		case 0:
			b = b[:at]
		case 1:
			b = slices.Insert(b, at, byte(next(256)))
		case 2:
			b = slices.Insert(b, at, endless(next(9))...)
		default:
			if at < len(b) {
				b[at] = []byte{0, 1, 2, 9, 'a', 'b', 0x80, 0xff, b[at] ^ 1, b[at] + 1, byte(next(256))}[next(11)]
			}
		}
	}
	return b
}

func TestP17_2ReadTurnedBytes(t *testing.T) {
	yes, no := 0, 0
	list := append(rights(), wrongs()...)
	for seed := range uint32(60000) {
		next := chance(seed)
		m := list[next(len(list))]
		if next(2) == 0 {
			m = some(next)
		}
		if checkWords(t, turned(bytesOf(m), next)) {
			yes++
		} else {
			no++
		}
	}
	if yes < 1500 || no < 10000 {
		t.Fatalf("%d are read, %d are not", yes, no)
	}
}

func TestP17_2ReadOfManyBytes(t *testing.T) {
	// Long enough that the time tells where the rest is copied with each part.
	for _, m := range []api.Msg{
		telling(send, slices.Repeat([]api.Txn{full()}, 4096)...),
		pushing(9, api.Vec{maxSeq}, under("a"), manyItems(32768)...),
		leading(9, nil, api.Vec{4096}, nil, manyTxns(4096)...),
	} {
		b, err := Put(m)
		if err != api.OK {
			t.Fatalf("Put(%s): %d", short(m), err)
		}
		checkRead(t, b, m)
		checkReadErr(t, append(b, 0))
		checkReadErr(t, b[:len(b)-1])
	}
	for _, b := range [][]byte{make([]byte, 1<<24), endless(1 << 24), bytes.Repeat([]byte{1}, 1<<24), bytes.Repeat([]byte{8}, 1<<24), lay(bytesOf(asking(1)), make([]byte, 1<<25))} {
		checkReadErr(t, b)
	}
	// A great number of which nothing is there.
	for _, n := range []int{8, 4096, 32768, 1<<56 - 1} {
		for at := 3; at < 9; at++ {
			checkReadErr(t, lay([]byte{send, 0, 0, 0, 0, 0, 0, 0, 0}[:at], n, make([]byte, 1000)))
		}
	}
}

func TestP17_3WhatWasPutIsRead(t *testing.T) {
	for _, m := range append(rights(), someRights(10000)...) {
		b, err := Put(m)
		if err != api.OK {
			t.Fatalf("Put(%s): %d", short(m), err)
		}
		checkRead(t, b, m)
	}
}

func TestP17_3WhatIsReadIsPutAsItWas(t *testing.T) {
	read := 0
	check := func(b []byte) {
		t.Helper()
		m, err := Read(b)
		if err != api.OK {
			return
		}
		read++
		checkFormed(t, m, true)
		checkPut(t, m, b)
	}
	for kind := range byte(8) {
		for _, b := range rows[byte](8, 0, 1, 2) {
			check(lay([]byte{kind}, b))
		}
	}
	list := rights()
	for seed := range uint32(40000) {
		next := chance(seed)
		m := list[next(len(list))]
		if next(2) == 0 {
			m = some(next)
		}
		check(turned(bytesOf(m), next))
	}
	if read < 1500 {
		t.Fatalf("only %d of these bytes are read", read)
	}
}

func TestP17_3UnlikeMessagesHaveUnlikeBytes(t *testing.T) {
	of := map[string]api.Msg{}
	for seed := range uint32(30000) {
		next := chance(seed)
		m := some(next)
		b, err := Put(m)
		if err != api.OK {
			continue
		}
		if other, there := of[string(b)]; there && !same(m, other) {
			t.Fatalf("%s and %s have the bytes %x", short(m), short(other), b)
		}
		of[string(b)] = m
	}
	for _, m := range rights() {
		b, _ := Put(m)
		if other, there := of[string(b)]; there && !same(m, other) {
			t.Fatalf("%s and %s have the bytes %x", short(m), short(other), b)
		}
		of[string(b)] = m
	}
	if len(of) < 5000 {
		t.Fatalf("only %d of these messages are unlike", len(of))
	}
}

func TestP17_3ListsThatAreNilOrEmptyAreAlike(t *testing.T) {
	for _, m := range append(rights(), someRights(500)...) {
		empty := own(m)
		for i := range empty.Txns {
			empty.Txns[i].Deps = append(api.Vec{}, empty.Txns[i].Deps...)
			empty.Txns[i].Effs = append([]api.Eff{}, empty.Txns[i].Effs...)
			for j, e := range empty.Txns[i].Effs {
				empty.Txns[i].Effs[j].Drops = append([]api.Dot{}, e.Drops...)
			}
		}
		empty.Vec, empty.From = append(api.Vec{}, m.Vec...), append(api.Vec{}, m.From...)
		empty.Zone, empty.Want = append([]string{}, m.Zone...), append([]string{}, m.Want...)
		empty.Items, empty.Txns = append([]api.Item{}, m.Items...), append([]api.Txn{}, empty.Txns...)
		checkFormed(t, empty, true)
		checkPut(t, empty, bytesOf(m))
	}
}

// own is m in memory of its own.
func own(m api.Msg) api.Msg {
	m.Vec, m.From = slices.Clone(m.Vec), slices.Clone(m.From)
	m.Zone, m.Want = slices.Clone(m.Zone), slices.Clone(m.Want)
	m.Items, m.Txns = slices.Clone(m.Items), slices.Clone(m.Txns)
	for i, t := range m.Txns {
		m.Txns[i].Deps = slices.Clone(t.Deps)
		m.Txns[i].Effs = slices.Clone(t.Effs)
		for j, e := range t.Effs {
			m.Txns[i].Effs[j].Drops = slices.Clone(e.Drops)
		}
	}
	return m
}

// spare is a list that has more behind it as its spare room.
func spare[T any](l []T, more ...T) []T {
	return slices.Concat(l, more)[:len(l)]
}

// spareMsg is m with more behind each of its lists as spare room.
func spareMsg(m api.Msg) api.Msg {
	m.Vec, m.From = spare(m.Vec, 5, 6, 7), spare(m.From, 8, 9)
	m.Zone, m.Want = spare(m.Zone, "", "A"), spare(m.Want, "zz", "zzz")
	m.Items = spare(m.Items, everyItems()...)
	m.Txns = spare(m.Txns, everyTxns()...)
	all := m.Txns[:cap(m.Txns)]
	for i, t := range all {
		all[i].Deps = spare(t.Deps, 5, 6, 7)
		all[i].Effs = spare(t.Effs, add(3, "s", "p", dot(1, 1, 1)), del(4, "s", dot(2, 2, 2)))
		effs := all[i].Effs[:cap(all[i].Effs)]
		for j, e := range effs {
			effs[j].Drops = spare(e.Drops, dot(5, 5, 5), dot(0, 1, 0))
		}
	}
	return m
}

// room is l with its spare room as a part of it, in memory of its own.
func room[T any](l []T) []T { return slices.Clone(l[:cap(l)]) }

// deep is a copy of m that shares nothing, each list with its spare room as a part of it.
func deep(m api.Msg) api.Msg {
	m.Vec, m.From = room(m.Vec), room(m.From)
	m.Zone, m.Want = room(m.Zone), room(m.Want)
	m.Items, m.Txns = room(m.Items), room(m.Txns)
	for i, t := range m.Txns {
		m.Txns[i].Deps, m.Txns[i].Effs = room(t.Deps), room(t.Effs)
		for j, e := range m.Txns[i].Effs {
			m.Txns[i].Effs[j].Drops = room(e.Drops)
		}
	}
	return m
}

// turn changes all of a list, spare room and all.
func turn[T any](l []T, to T) {
	l = l[:cap(l)]
	for i := range l {
		l[i] = to
	}
}

// turnTxn changes all lists of x, spare room and all.
func turnTxn(x api.Txn) {
	turn(x.Deps, 77)
	for _, e := range x.Effs[:cap(x.Effs)] {
		turn(e.Drops, dot(9, 9, 9))
	}
	turn(x.Effs, api.Eff{Key: "turned"})
}

// turnMsg changes all lists of m, spare room and all.
func turnMsg(m api.Msg) {
	turn(m.Vec, 77)
	turn(m.From, 78)
	turn(m.Zone, "turned")
	turn(m.Want, "turned")
	turn(m.Items, api.Item{Key: "turned"})
	for _, x := range m.Txns[:cap(m.Txns)] {
		turnTxn(x)
	}
	turn(m.Txns, api.Txn{Node: 77})
}

func TestP17_1NothingIsChangedOrShared(t *testing.T) {
	for _, list := range append(odds(), someRights(500)...) {
		if len(list.Txns)+len(list.Items) > 1000 {
			continue
		}
		m := spareMsg(list)
		before := deep(m)
		formed := Formed(m)
		one, err := Put(m)
		two, _ := Put(m)
		if formed != isFormed(list) || formed != (err == api.OK) {
			t.Fatalf("spare room tells in Formed or Put of %s", short(list))
		}
		turn(one, 0xdd)
		if !same(deep(m), before) {
			t.Fatalf("Formed or Put of %s: what was handed in, or its spare room, was changed, or is shared", short(list))
		}
		turnMsg(m)
		var want []byte
		if formed {
			want = bytesOf(list)
		}
		if !bytes.Equal(two, want) {
			t.Fatalf("Put(%s) shares: %s; want %s", short(list), short(two), short(want))
		}
	}
}

func TestP17_2NothingIsChangedOrSharedByRead(t *testing.T) {
	for _, m := range append(rights(), someRights(500)...) {
		whole := slices.Concat(bytesOf(m), []byte{1, 1, 0, 0, 9})
		b := whole[:len(whole)-5]
		before := slices.Clone(whole)
		one, err := Read(b)
		two, _ := Read(b)
		if err != api.OK || !bytes.Equal(whole, before) {
			t.Fatalf("Read(%s) errs with %d, or what was handed in, or its spare room, was changed", short(b), err)
		}
		turnMsg(one)
		if !bytes.Equal(whole, before) || !same(two, m) {
			t.Fatalf("Read(%s): an answer shares with what was handed in, or with another one", short(before))
		}
		turn(whole, 0xcc)
		if !same(two, m) {
			t.Fatalf("Read(%s) keeps what was handed in: %s", short(before), short(two))
		}
	}
	for _, m := range wrongs() {
		whole := slices.Concat(bytesOf(m), []byte{1, 1, 0, 0, 9})
		before := slices.Clone(whole)
		Read(whole[:len(whole)-5])
		Read(whole)
		if !bytes.Equal(whole, before) {
			t.Fatalf("Read(%s) changed what was handed in, or its spare room", short(before))
		}
	}
}

// lists are ways of changing one list of a message, spare room and all.
func lists(m api.Msg) []func() {
	l := []func(){
		func() { turn(m.Vec, 77) }, func() { turn(m.From, 78) }, func() { turn(m.Zone, "turned") }, func() { turn(m.Want, "turned") }, func() { turn(m.Items, api.Item{Key: "turned"}) },
	}
	for _, t := range m.Txns {
		l = append(l, func() { turn(t.Deps, 79) })
		for _, e := range t.Effs {
			l = append(l, func() { turn(e.Drops, dot(9, 9, 9)) })
		}
	}
	for _, t := range m.Txns {
		l = append(l, func() { turn(t.Effs, api.Eff{Key: "turned"}) })
	}
	return append(l, func() { turn(m.Txns, api.Txn{Node: 77}) })
}

func TestP17_2ListsOfOneAnswerAreApart(t *testing.T) {
	for _, m := range append(every(), leading(3, api.Vec{1}, api.Vec{1}, under("a")), pulling(3, true, api.Vec{1}, under("a"), under("a"))) {
		b := bytesOf(m)
		for i := range lists(m) {
			read, err := Read(b)
			apart := own(m)
			if err != api.OK || !same(read, apart) {
				t.Fatalf("Read(%s) = %s, %d", short(b), short(read), err)
			}
			// In apart no list shares with another one, so the same is done to it and to the answer.
			lists(read)[i]()
			lists(apart)[i]()
			if !same(read, apart) {
				t.Fatalf("lists of one answer of Read(%s) share: %s; want %s", short(b), short(read), short(apart))
			}
		}
	}
}

func TestP17_2SameEachTime(t *testing.T) {
	for _, m := range append(odds(), someRights(200)...) {
		if len(m.Txns)+len(m.Items) > 1000 {
			continue
		}
		b, err := Put(m)
		for range 5 {
			got, gotErr := Put(m)
			if !bytes.Equal(got, b) || gotErr != err {
				t.Fatalf("Put(%s) = %s, %d, and then %s, %d", short(m), short(b), err, short(got), gotErr)
			}
			checkFormed(t, m, err == api.OK)
			if err == api.OK {
				checkRead(t, b, m)
			}
		}
	}
}
