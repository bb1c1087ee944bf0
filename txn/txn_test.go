package txn

import (
	"bytes"
	"encoding/binary"
	"fmt"
	"math"
	"slices"
	"strings"
	"testing"

	"buttery/api"
	"buttery/eff"
	"buttery/zone"
)

const maxSeq = 1 << 30

// ints are values of a transaction's numbers: such as may be, and such as may not.
func ints() []int {
	return []int{
		math.MinInt, -1 << 40, -1<<32 + 1, -8, -2, -1, 0, 1, 2, 3, 4, 5, 6, 7, 8, 9, 15, 63, 64, 65, 127, 128, 1 << 14,
		maxSeq - 2, maxSeq - 1, maxSeq, maxSeq + 1, maxSeq + 2, 1 << 31, 1 << 32, 1<<32 + 1, 1<<32 + 2, 1<<56 - 1, 1 << 56, math.MaxInt - 1, math.MaxInt,
	}
}

// dot is the dot of those parts.
func dot(node, seq, at int) api.Dot { return api.Dot{Node: node, Seq: seq, At: at} }

// dots are a list of these.
func dots(l ...api.Dot) []api.Dot { return l }

// rising are the first n dots of a row that rises by all parts of a dot: of two nodes, the numbers 1 to 4.
func rising(n int) []api.Dot {
	l := make([]api.Dot, n)
	for i := range l {
		l[i] = dot(i/32, 1+i/8%4, i%8)
	}
	return l
}

// add, inc and del are effects that make an element, a count and nothing.
func add(at int, key, elem string, drops ...api.Dot) api.Eff {
	return api.Eff{At: at, Key: key, Kind: api.Elem, Elem: elem, Drops: drops}
}

func inc(at int, key string, n int64, drops ...api.Dot) api.Eff {
	return api.Eff{At: at, Key: key, Kind: api.Count, N: n, Drops: drops}
}

func del(at int, key string, drops ...api.Dot) api.Eff {
	return api.Eff{At: at, Key: key, Drops: drops}
}

// of is a transaction of these parts.
func of(node, seq int, deps api.Vec, effs ...api.Eff) api.Txn {
	return api.Txn{Node: node, Seq: seq, Deps: deps, Effs: effs}
}

// said are Deps of nodes that are alike, but that say seq - 1 of node, where they can; with no zeros at the end.
func said(node, seq, nodes, n int) api.Vec {
	v := slices.Repeat(api.Vec{n}, nodes)
	for node >= len(v) && node < 8 {
		v = append(v, 0)
	}
	if node >= 0 && node < 8 {
		v[node] = seq - 1
	}
	return cut(v)
}

// cut is v without the zeros at its end.
func cut(v api.Vec) api.Vec {
	for len(v) > 0 && v[len(v)-1] == 0 {
		v = v[:len(v)-1]
	}
	return v
}

// full is the longest transaction that there may be.
func full() api.Txn {
	t := of(7, maxSeq, slices.Repeat(api.Vec{maxSeq}, 8))
	t.Deps[7] = maxSeq - 1
	for at := range 8 {
		e := api.Eff{At: at, Key: strings.Repeat("k", 16), Field: strings.Repeat("f", 16), Kind: 1 + at%2, Elem: strings.Repeat("\xff", 32)}
		for i := range 64 {
			e.Drops = append(e.Drops, dot(at, maxSeq-8+i/8, i%8))
		}
		t.Effs = append(t.Effs, e)
	}
	t.Effs[7].Drops = rising(64)
	return t
}

// everyPart is a transaction with all kinds of effects, in which no two parts are the same by chance.
func everyPart() api.Txn {
	return of(3, 300, api.Vec{9, 0, 200, 299, 70000},
		api.Eff{At: 1, Key: "a/b", Field: "f", Kind: 1, Elem: "el\x80", Drops: dots(dot(0, 8, 6), dot(2, 200, 7), dot(4, 65536, 3))},
		api.Eff{At: 2, Key: "c", Field: "g/h", Kind: 2, Elem: "reg"},
		api.Eff{At: 4, Key: "dd", Kind: 3, N: -12345678901, Drops: dots(dot(3, 299, 5))},
		api.Eff{At: 6, Key: "9", Field: "0", Drops: dots(dot(3, 300, 1), dot(3, 300, 4))},
	)
}

// rights are transactions that are formed: at the edges, and others.
func rights() []api.Txn {
	l := []api.Txn{
		of(1, 1, nil), of(1, 1, api.Vec{}), of(0, 1, nil), of(7, 1, nil), of(0, 2, api.Vec{1}), of(1, 2, api.Vec{0, 1}),
		of(7, 2, api.Vec{0, 0, 0, 0, 0, 0, 0, 1}), of(0, maxSeq, api.Vec{maxSeq - 1}), of(7, maxSeq, api.Vec{0, 0, 0, 0, 0, 0, 0, maxSeq - 1}),
		of(1, 1, api.Vec{maxSeq}), of(0, 1, api.Vec{0, maxSeq}), of(2, 1, api.Vec{0, 0, 0, 0, 0, 0, 0, maxSeq}), of(2, 1, api.Vec{1, 1, 0, 1, 1, 1, 1, 1}),
		of(1, 1, nil, add(0, "a", "x")), of(1, 1, nil, add(7, "a", "x")), of(1, 1, nil, inc(3, "a", math.MinInt64)), of(1, 1, nil, inc(3, "a", math.MaxInt64)),
		of(1, 1, nil, api.Eff{At: 5, Key: "a", Field: "f", Kind: 2, Elem: "r"}), of(1, 1, nil, add(0, "a", "x"), add(1, "a", "x", dot(1, 1, 0))),
		of(1, 1, nil, add(3, "a", "x"), del(4, "b", dot(1, 1, 1), dot(1, 1, 3))), of(1, 1, api.Vec{2}, del(0, "a", dot(0, 2, 7))),
		of(1, 3, api.Vec{2, 2}, del(0, "a", dot(0, 1, 0), dot(0, 2, 0), dot(1, 1, 0), dot(1, 2, 7)), del(7, "a", dot(1, 3, 6))),
		of(0, maxSeq, api.Vec{maxSeq - 1}, del(1, "a", dot(0, maxSeq-1, 7), dot(0, maxSeq, 0))),
		of(5, 1, api.Vec{4, 4}, add(0, "a", "x", rising(64)...)),
		full(), everyPart(),
	}
	for n := range 9 {
		t := of(1, 1, nil)
		for at := range n {
			t.Effs = append(t.Effs, add(at, "a", strings.Repeat("e", at*4)))
		}
		l = append(l, t)
	}
	return l
}

// wrongs are transactions that are not formed, though their bytes can be laid: each by one thing.
func wrongs() []api.Txn {
	l := []api.Txn{
		of(8, 1, nil), of(9, 1, nil), of(1<<56-1, 1, nil), of(1, 0, nil), {}, of(1, maxSeq+1, api.Vec{0, maxSeq}), of(1, 1<<56-1, api.Vec{0, 1<<56 - 2}),
		// Deps that are not trimmed, or say too much of another node.
		of(1, 1, api.Vec{0}), of(1, 1, api.Vec{0, 0}), of(1, 1, api.Vec{3, 0}), of(1, 2, api.Vec{0, 1, 0}), of(1, 1, slices.Repeat(api.Vec{0}, 8)), of(1, 1, api.Vec{maxSeq + 1}),
		of(1, 1, api.Vec{0, 0, 1<<56 - 1}), of(1, 1, api.Vec{0, 0, 0, 0, 0, 0, 0, maxSeq + 1}),
		// Deps that say less of the node, and more.
		of(1, 2, nil), of(1, 2, api.Vec{1}), of(1, 3, api.Vec{0, 1}), of(1, 1, api.Vec{0, 1}), of(1, 2, api.Vec{0, 2}), of(1, 3, api.Vec{2, 0, 2}), of(7, 2, api.Vec{1, 1, 1, 1, 1, 1, 1}),
		of(1, maxSeq, api.Vec{0, maxSeq - 2}), of(1, maxSeq, api.Vec{0, maxSeq}),
		// Effects that are not right.
		of(1, 1, nil, del(0, "a")), of(1, 1, nil, add(0, "", "x")), of(1, 1, nil, add(0, "A", "x")), of(1, 1, nil, add(8, "a", "x")), of(1, 1, nil, add(0, strings.Repeat("a", 17), "x")),
		of(1, 1, nil, api.Eff{Key: "a", Field: strings.Repeat("a", 17), Kind: 1}), of(1, 1, nil, add(0, "a", strings.Repeat("x", 33))), of(1, 1, nil, api.Eff{Key: "a", Kind: 4}),
		of(1, 1, nil, api.Eff{Key: "a", Kind: 1, N: 1}), of(1, 1, nil, api.Eff{Key: "a", Kind: 3, Elem: "x"}), of(1, 1, nil, add(0, "a", "x"), add(0, "a", "x")),
		of(1, 1, nil, add(1, "a", "x"), add(0, "a", "x")), of(1, 1, nil, add(0, "a", "x", dot(1, 1, 0))), of(1, 1, nil, add(0, "a", "x", dot(1, 1, 1))),
		of(1, 1, api.Vec{1}, add(0, "a", "x", dot(0, 1, 1), dot(0, 1, 0))), of(1, 1, api.Vec{1}, add(0, "a", "x", dot(0, 1, 1), dot(0, 1, 1))), of(1, 1, api.Vec{1}, add(0, "a", "x", dot(0, 1, 8))),
		of(1, 1, api.Vec{1}, add(0, "a", "x", dot(0, 0, 0))), of(1, 1, api.Vec{1}, add(0, "a", "x"), add(1, "a", "x"), del(2, "a")),
		// Effects that take away what is not heard.
		of(1, 1, nil, add(0, "a", "x", dot(0, 1, 0))), of(1, 1, api.Vec{1}, add(0, "a", "x", dot(0, 2, 0))), of(1, 1, api.Vec{1}, del(0, "a", dot(2, 1, 0))),
		of(1, 2, api.Vec{0, 1}, del(0, "a", dot(1, 3, 0))), of(1, 2, api.Vec{0, 1}, del(0, "a", dot(1, 1, 0)), del(1, "a", dot(0, 1, 0))), of(1, 2, api.Vec{0, 1}, del(1, "a", dot(2, 2, 0))),
		of(5, 1, api.Vec{4, 3}, add(0, "a", "x", rising(64)...)),
	}
	return l
}

// unputs are transactions that are not formed, and have no bytes that Read would go through.
func unputs() []api.Txn {
	l := []api.Txn{
		of(-1, 1, nil), of(math.MinInt, 1, nil), of(math.MaxInt, 1, nil), of(1, -1, nil), of(1, math.MinInt, nil), of(1, math.MaxInt, nil), of(1, math.MinInt+1, api.Vec{0, math.MinInt}),
		of(1, 1, api.Vec{-1}), of(1, 1, api.Vec{-1, 0, 1}), of(1, 1, api.Vec{0, -1}), of(1, 1, api.Vec{0, -1, 1}), of(1, 1, api.Vec{1, 0, -1}), of(1, 0, api.Vec{0, -1}), of(1, 0, api.Vec{0, -1, 1}),
		of(1, 1, api.Vec{math.MaxInt}), of(1, 1, api.Vec{0, 0, math.MinInt}), of(1, 1, slices.Repeat(api.Vec{0}, 9)), of(0, 2, slices.Repeat(api.Vec{1}, 9)), of(8, 2, slices.Repeat(api.Vec{1}, 9)),
		of(1, 1, nil, add(-1, "a", "x")), of(1, 1, nil, api.Eff{Key: "a", Kind: -1}), of(1, 1, nil, add(0, strings.Repeat("a", 1<<17), "x")), of(1, 1, nil, add(0, "a", strings.Repeat("a", 1<<17))),
		of(1, 1, api.Vec{1}, del(0, "a", dot(-1, 1, 0))), of(1, 1, api.Vec{9, 0, 9}, add(0, "a", "x", rising(65)...)),
	}
	for _, n := range []int{9, 10, 16, 65} {
		t := of(1, 1, nil)
		for at := range n {
			t.Effs = append(t.Effs, add(at, "a", "x"))
		}
		l = append(l, t)
	}
	return l
}

// odds are transactions of all kinds, formed or not.
func odds() []api.Txn { return slices.Concat(rights(), wrongs(), unputs()) }

// isFormed is what the document says of a transaction that is formed, of its effects by layer 10.
func isFormed(t api.Txn) bool {
	if t.Node < 0 || t.Node > 7 || t.Seq < 1 || t.Seq > 1073741824 || len(t.Deps) > 8 || len(t.Effs) > 8 {
		return false
	}
	own := 0
	for node, n := range t.Deps {
		if n < 0 || n > 1073741824 || n == 0 && node == len(t.Deps)-1 {
			return false
		}
		if node == t.Node {
			own = n
		}
	}
	return own+1 == t.Seq && eff.Right(t.Node, t.Seq, t.Effs) && eff.Heard(t.Effs, t.Node, t.Seq, t.Deps)
}

// onlyOf is what the document says of Only.
func onlyOf(t api.Txn, z []string) api.Txn {
	r := of(t.Node, t.Seq, t.Deps)
	for _, e := range t.Effs {
		if zone.Covers(z, e.Key) {
			r.Effs = append(r.Effs, e)
		}
	}
	return r
}

// lay puts parts one behind the other, by the library's numbers: ints as numbers, int64s as whole numbers, strings as texts, bytes as they are.
func lay(parts ...any) []byte {
	var b []byte
	for _, part := range parts {
		switch x := part.(type) {
		case int:
			b = binary.AppendUvarint(b, uint64(x))
		case int64:
			b = binary.LittleEndian.AppendUint64(b, uint64(x))
		case string:
			b = append(binary.AppendUvarint(b, uint64(len(x))), x...)
		case []byte:
			b = append(b, x...)
		default:
			panic("lay")
		}
	}
	return b
}

// partsOf is what the document says of a transaction's bytes, part by part.
func partsOf(t api.Txn) []any {
	l := []any{t.Node, t.Seq, len(t.Deps)}
	for _, n := range t.Deps {
		l = append(l, n)
	}
	l = append(l, len(t.Effs))
	for _, e := range t.Effs {
		l = append(l, e.At, e.Key, e.Field, e.Kind, e.Elem, e.N, len(e.Drops))
		for _, d := range e.Drops {
			l = append(l, d.Node, d.Seq, d.At)
		}
	}
	return l
}

// bytesOf is those parts laid, of whatever transaction.
func bytesOf(t api.Txn) []byte { return lay(partsOf(t)...) }

// readOf is what the document says of Read, by the library's numbers; what stops it stops it at once.
func readOf(b []byte) (t api.Txn, rest []byte, err api.Errno) {
	defer func() {
		if e, stopped := recover().(api.Errno); stopped {
			t, rest, err = api.Txn{}, nil, e
		}
	}()
	at := 0
	num := func() int {
		v, size := binary.Uvarint(b[at:min(len(b), at+8)])
		switch {
		case size == 0 && len(b) < at+8:
			panic(api.ErrShort)
		case size <= 0 || size > 1 && b[at+size-1] == 0:
			panic(api.ErrForm)
		}
		at += size
		return int(v)
	}
	some := func(n int) []byte {
		if len(b)-at < n {
			panic(api.ErrShort)
		}
		at += n
		return b[at-n : at]
	}
	text := func() string {
		n := num()
		if n > 65536 {
			panic(api.ErrLong)
		}
		return string(some(n))
	}
	count := func(most int) int {
		n := num()
		if n > most {
			panic(api.ErrForm)
		}
		return n
	}
	t.Node = num()
	t.Seq = num()
	for range count(8) {
		t.Deps = append(t.Deps, num())
	}
	for range count(8) {
		var e api.Eff
		e.At = num()
		e.Key = text()
		e.Field = text()
		e.Kind = num()
		e.Elem = text()
		e.N = int64(binary.LittleEndian.Uint64(some(8)))
		for range count(64) {
			var d api.Dot
			d.Node = num()
			d.Seq = num()
			d.At = num()
			e.Drops = append(e.Drops, d)
		}
		t.Effs = append(t.Effs, e)
	}
	if !isFormed(t) {
		panic(api.ErrForm)
	}
	return t, b[at:], api.OK
}

// sameEff and same tell whether two effects, two transactions are the same, lists that are nil like empty ones.
func sameEff(a, b api.Eff) bool {
	return a.At == b.At && a.Key == b.Key && a.Field == b.Field && a.Kind == b.Kind && a.Elem == b.Elem && a.N == b.N && slices.Equal(a.Drops, b.Drops)
}

func same(a, b api.Txn) bool {
	return a.Node == b.Node && a.Seq == b.Seq && slices.Equal(a.Deps, b.Deps) && slices.EqualFunc(a.Effs, b.Effs, sameEff)
}

// short tells a value, no longer than one can read.
func short(v any) string {
	s := fmt.Sprintf("%+q", fmt.Sprintf("%+v", v))
	if b, isBytes := v.([]byte); isBytes {
		s = fmt.Sprintf("%x", b)
	}
	if len(s) > 1000 {
		return s[:1000] + ".."
	}
	return s
}

func checkFormed(t *testing.T, x api.Txn, want bool) {
	t.Helper()
	if got := Formed(x); got != want {
		t.Fatalf("Formed(%s) = %t; want %t", short(x), got, want)
	}
}

func checkOnly(t *testing.T, x api.Txn, z []string, want api.Txn) {
	t.Helper()
	if got := Only(x, z); !same(got, want) {
		t.Fatalf("Only(%s, %s) = %s; want %s", short(x), short(z), short(got), short(want))
	}
}

func checkPut(t *testing.T, b []byte, x api.Txn, want []byte) {
	t.Helper()
	got, err := Put(b, x)
	if !bytes.Equal(got, want) || err != api.OK {
		t.Fatalf("Put(%s, %s) = %s, %d; want %s", short(b), short(x), short(got), err, short(want))
	}
}

func checkPutErr(t *testing.T, b []byte, x api.Txn) {
	t.Helper()
	got, err := Put(b, x)
	if len(got) != 0 || err != api.ErrForm {
		t.Fatalf("Put(%s, %s) = %s, %d; want nothing, ErrForm", short(b), short(x), short(got), err)
	}
}

func checkRead(t *testing.T, b []byte, want api.Txn, wantRest []byte) {
	t.Helper()
	got, rest, err := Read(b)
	if !same(got, want) || !bytes.Equal(rest, wantRest) || err != api.OK {
		t.Fatalf("Read(%s) = %s, %s, %d; want %s, %s", short(b), short(got), short(rest), err, short(want), short(wantRest))
	}
}

func checkReadErr(t *testing.T, b []byte, want api.Errno) {
	t.Helper()
	got, rest, err := Read(b)
	if !same(got, api.Txn{}) || len(rest) != 0 || err != want {
		t.Fatalf("Read(%s) = %s, %s, %d; want nothing, error %d", short(b), short(got), short(rest), err, want)
	}
}

// checkWords holds Read against what the document says, and tells the error.
func checkWords(t *testing.T, b []byte) api.Errno {
	t.Helper()
	want, rest, err := readOf(b)
	if err != api.OK {
		checkReadErr(t, b, err)
	} else {
		checkRead(t, b, want, rest)
	}
	return err
}

// rows are all lists of at most so many of these.
func rows[T any](most int, of ...T) [][]T {
	l := [][]T{nil}
	for from := 0; most > 0; most-- {
		end := len(l)
		for _, row := range l[from:end] {
			for _, x := range of {
				l = append(l, append(slices.Clone(row), x))
			}
		}
		from = end
	}
	return l
}

// chance answers numbers below what it is asked, always the same ones for a seed.
func chance(seed uint32) func(below int) int {
	state := seed*2654435761 + 12345
	return func(below int) int {
		state = state*1664525 + 1013904223
		return int(state >> 8 % uint32(below))
	}
}

// someDrops are dots of the nodes 0 to 3, some of them heard by these Deps, or of this transaction; most often rising.
func someDrops(node, seq, at int, deps api.Vec, next func(int) int) []api.Dot {
	var l []api.Dot
	for range next(6) {
		d := dot(next(4), 1, next(8))
		if d.Node < len(deps) && deps[d.Node] > 0 {
			d.Seq = max(1, deps[d.Node]-next(3)+next(12)/11)
		}
		if next(4) == 0 && at > 0 {
			d = dot(node, seq, next(at))
		}
		l = append(l, d)
	}
	if next(30) == 0 {
		return l
	}
	slices.SortFunc(l, func(a, b api.Dot) int {
		return slices.Compare([]int{a.Node, a.Seq, a.At}, []int{b.Node, b.Seq, b.At})
	})
	return slices.Compact(l)
}

// some is a transaction of few values of each part, often formed.
func some(next func(int) int) api.Txn {
	node := next(4)
	t := of(node, 1+next(4), nil)
	for range next(8) {
		t.Deps = append(t.Deps, next(4)*next(200))
	}
	for node >= len(t.Deps) {
		t.Deps = append(t.Deps, next(2))
	}
	t.Deps[node] = t.Seq - 1
	t.Deps = cut(t.Deps)
	keys := []string{"a", "b", "a/b", "0", "a0"}
	for at := range 8 {
		if next(3) > 0 {
			continue
		}
		e := api.Eff{At: at, Key: keys[next(5)], Field: strings.Repeat("f", next(3)), Kind: next(4), Drops: someDrops(node, t.Seq, at, t.Deps, next)}
		switch {
		case e.Kind == 3:
			e.N = int64(next(1<<20)-1<<19) << next(40)
		case e.Kind > 0:
			e.Elem = strings.Repeat("e\x00", next(17))
		case len(e.Drops) == 0:
			continue
		}
		t.Effs = append(t.Effs, e)
	}
	return t
}

// someRights are transactions that are formed, n of them.
func someRights(t *testing.T, n int) []api.Txn {
	t.Helper()
	var l []api.Txn
	for seed := range uint32(n * 20) {
		if x := some(chance(seed)); isFormed(x) && len(l) < n {
			l = append(l, x)
		}
	}
	if len(l) < n {
		t.Fatalf("only %d of these transactions are formed", len(l))
	}
	return l
}

func TestP13_1FormedKnown(t *testing.T) {
	for _, x := range rights() {
		checkFormed(t, x, true)
	}
	for _, x := range slices.Concat(wrongs(), unputs()) {
		checkFormed(t, x, false)
	}
	// What the words of these tests take for formed is what they say by hand.
	for _, x := range odds() {
		checkFormed(t, x, isFormed(x))
	}
}

func TestP13_1FormedByNode(t *testing.T) {
	for _, node := range ints() {
		may := node >= 0 && node <= 7
		checkFormed(t, of(node, 1, nil), may)
		checkFormed(t, of(node, 1, nil, add(0, "a", "x")), may)
		checkFormed(t, of(node, 2, nil), false)
		for _, nodes := range []int{0, 1, 5, 8} {
			checkFormed(t, of(node, 2, said(node, 2, nodes, 7)), may)
			checkFormed(t, of(node, 1, said(node, 1, nodes, 7)), may)
		}
	}
}

func TestP13_1FormedBySeq(t *testing.T) {
	for _, seq := range ints() {
		may := seq >= 1 && seq <= maxSeq
		for node := range 8 {
			checkFormed(t, of(node, seq, said(node, seq, 0, 0)), may)
			checkFormed(t, of(node, seq, said(node, seq, 8, 5)), may)
			checkFormed(t, of(node, seq, said(node, seq, 3, 1), add(0, "a", "x"), del(1, "a", dot(node, seq, 0))), may)
			checkFormed(t, of(node, seq, nil), seq == 1)
			checkFormed(t, of(node, seq, said(node, 1, 8, 5)), seq == 1)
		}
	}
}

func TestP13_1FormedByWhatDepsSayOfNode(t *testing.T) {
	// Less, just as much, more: of the node itself, not of another one.
	for node := range 8 {
		for _, seq := range []int{1, 2, 3, 100, maxSeq - 1, maxSeq} {
			for _, n := range []int{0, 1, 2, 98, 99, 100, 101, maxSeq - 2, maxSeq - 1, maxSeq} {
				x := of(node, seq, said(node, n+1, 0, 0))
				checkFormed(t, x, n == seq-1)
				x.Deps = said(node, n+1, 8, seq)
				checkFormed(t, x, n == seq-1)
				x.Deps = said((node+1)%8, seq, 0, 0)
				checkFormed(t, x, seq == 1)
			}
		}
	}
}

func TestP13_1FormedByEachNumberOfDeps(t *testing.T) {
	for node := range 8 {
		for other := range 8 {
			for _, n := range ints() {
				x := of(node, 5, said(node, 5, 8, 3))
				x.Deps[other] = n
				want := n >= 0 && n <= maxSeq && (n > 0 || other < 7)
				if other == node {
					want = n == 4
				}
				checkFormed(t, x, want)
			}
		}
	}
}

func TestP13_1FormedByHowManyDeps(t *testing.T) {
	for n := range 30 {
		x := of(0, 2, slices.Repeat(api.Vec{1}, n))
		checkFormed(t, x, n >= 1 && n <= 8)
		// With zeros at the end, and with one behind them.
		x.Deps = append(x.Deps, 0)
		checkFormed(t, x, false)
		x.Deps = append(x.Deps, 0, 0)
		checkFormed(t, x, false)
		x.Deps = append(x.Deps, 4)
		checkFormed(t, x, n >= 1 && n <= 4)
		x.Deps[n] = -1
		checkFormed(t, x, false)
	}
}

func TestP13_1FormedByAllShortDeps(t *testing.T) {
	n := 0
	for _, deps := range rows(4, -1, 0, 1, 2, maxSeq, maxSeq+1) {
		for _, node := range []int{-1, 0, 1, 3, 4, 7, 8} {
			for _, seq := range []int{0, 1, 2, 3, maxSeq, maxSeq + 1, maxSeq + 2} {
				x := of(node, seq, deps)
				want := isFormed(x)
				checkFormed(t, x, want)
				if want {
					n++
				}
			}
		}
	}
	if n < 1000 {
		t.Fatalf("%d transactions are formed", n)
	}
}

func TestP13_1FormedByHowManyEffects(t *testing.T) {
	for n := range 40 {
		x := of(1, 1, nil)
		for at := range n {
			x.Effs = append(x.Effs, add(at, "a", "x"))
		}
		checkFormed(t, x, n <= 8)
		for i := range x.Effs {
			x.Effs[i].At = i % 8
		}
		checkFormed(t, x, n <= 8)
	}
}

func TestP13_1FormedByEachEffect(t *testing.T) {
	// One of eight effects is turned into one that is not right, or not heard; each at each place.
	turns := []func(e *api.Eff){
		func(e *api.Eff) { e.Key = "" }, func(e *api.Eff) { e.Key = "a b" }, func(e *api.Eff) { e.Field = "F" }, func(e *api.Eff) { e.Kind = 5 },
		func(e *api.Eff) { e.Kind = 0 }, func(e *api.Eff) { e.N = 1 }, func(e *api.Eff) { e.Elem = strings.Repeat("e", 33) }, func(e *api.Eff) { e.At-- }, func(e *api.Eff) { e.At++ },
		func(e *api.Eff) { e.Drops = dots(dot(1, 2, e.At)) }, func(e *api.Eff) { e.Drops = dots(dot(1, 2, 7)) }, func(e *api.Eff) { e.Drops = dots(dot(0, 4, 0)) },
		func(e *api.Eff) { e.Drops = dots(dot(1, 3, 0)) }, func(e *api.Eff) { e.Drops = dots(dot(2, 1, 0)) }, func(e *api.Eff) { e.Drops = dots(dot(7, 2, 0)) },
		func(e *api.Eff) { e.Drops = dots(dot(0, 1, 0), dot(0, 1, 0)) }, func(e *api.Eff) { e.Drops = slices.Repeat(dots(dot(0, 1, 0)), 65) },
	}
	for i, turn := range turns {
		for at := range 8 {
			x := of(1, 2, api.Vec{3, 1})
			for n := range 8 {
				x.Effs = append(x.Effs, add(n, "a", "x", dot(0, 3, n), dot(1, 1, 0)))
			}
			checkFormed(t, x, true)
			turn(&x.Effs[at])
			if Formed(x) {
				t.Fatalf("with effect %d turned by %d Formed(%s) = true", at, i, short(x))
			}
		}
	}
}

func TestP13_1FormedByWhatIsHeard(t *testing.T) {
	for node := range 4 {
		for _, deps := range rows(3, 0, 1, 2, 4) {
			for of1 := range 5 {
				for _, seq := range []int{1, 2, 3, 4, 5} {
					x := of(node, 3, said(node, 3, 0, 0), add(0, "a", "x"), del(1, "a", dot(of1, seq, 0)))
					for other, n := range deps {
						for other >= len(x.Deps) {
							x.Deps = append(x.Deps, 0)
						}
						if other != node {
							x.Deps[other] = n
						}
					}
					x.Deps = cut(x.Deps)
					heard := of1 < len(x.Deps) && seq <= x.Deps[of1] || of1 == node && seq == 3
					checkFormed(t, x, heard)
				}
			}
		}
	}
}

func TestP13_1FormedOfSome(t *testing.T) {
	yes, no := 0, 0
	for seed := range uint32(20000) {
		x := some(chance(seed))
		want := isFormed(x)
		checkFormed(t, x, want)
		if want {
			yes++
		} else {
			no++
		}
	}
	if yes < 2000 || no < 2000 {
		t.Fatalf("%d are formed, %d are not", yes, no)
	}
}

func TestP13_1FormedOfLongLists(t *testing.T) {
	long := slices.Repeat(api.Vec{1}, 1<<20)
	checkFormed(t, of(0, 2, long), false)
	checkFormed(t, of(1<<19, 2, long), false)
	long[len(long)-1] = 0
	checkFormed(t, of(0, 2, long), false)
	checkFormed(t, of(0, 1, slices.Repeat(api.Vec{0}, 1<<20)), false)
	checkFormed(t, of(1, 1, nil, slices.Repeat([]api.Eff{add(0, "a", "x")}, 1<<18)...), false)
	checkFormed(t, of(1, 1, nil, add(0, "a", "x", slices.Repeat(rising(64), 1<<12)...)), false)
	checkFormed(t, of(1, 1, nil, add(0, strings.Repeat("a", 1<<24), "x")), false)
	checkFormed(t, of(1, 1, nil, add(0, "a", strings.Repeat("a", 1<<24))), false)
}

// zones are lists of texts that cover something, or nothing, in their one form or not.
func zones() [][]string {
	return [][]string{
		nil, {}, {""}, {"a"}, {"b"}, {"a", "b"}, {"a/"}, {"a/b"}, {"/"}, {"a", "a/b"}, {"a/b", "a"}, {"b", "a"}, {"", "a"}, {"A"}, {"a", "A", "\xff"},
		{"c", "d"}, {"dd", "c", "9", "a/b"}, {strings.Repeat("k", 16)}, {strings.Repeat("k", 17)}, {strings.Repeat("a", 40), "b"}, {"0", "1", "2", "3", "4", "5", "6", "7", "8", "9", "a0"},
	}
}

func TestP13_1OnlyKnown(t *testing.T) {
	x := of(1, 2, api.Vec{3, 1}, add(0, "a", "x", dot(0, 2, 0)), inc(1, "b", 4), del(2, "a/b", dot(1, 1, 1), dot(1, 2, 0)), api.Eff{At: 5, Key: "b", Field: "f", Kind: 2, Elem: "z"})
	checkOnly(t, x, []string{""}, x)
	checkOnly(t, x, []string{"a", "b"}, x)
	checkOnly(t, x, nil, of(1, 2, api.Vec{3, 1}))
	checkOnly(t, x, []string{"c", "a/bc"}, of(1, 2, api.Vec{3, 1}))
	checkOnly(t, x, []string{"a"}, of(1, 2, api.Vec{3, 1}, x.Effs[0], x.Effs[2]))
	checkOnly(t, x, []string{"b"}, of(1, 2, api.Vec{3, 1}, x.Effs[1], x.Effs[3]))
	checkOnly(t, x, []string{"a/"}, of(1, 2, api.Vec{3, 1}, x.Effs[2]))
	checkOnly(t, of(1, 1, nil), []string{""}, of(1, 1, nil))
	checkOnly(t, of(1, 1, nil), nil, of(1, 1, nil))
	// What isn't formed stays as it is, too: Deps are not trimmed, and effects stay in their order.
	odd := of(-9, 0, api.Vec{-1, 5, 0, 0}, add(99, "\xff", "x"), add(3, "B", "y", dot(9, 9, 9), api.Dot{}), add(3, "B", "z"))
	checkOnly(t, odd, []string{""}, odd)
	checkOnly(t, odd, []string{"B"}, of(-9, 0, api.Vec{-1, 5, 0, 0}, odd.Effs[1:]...))
	checkOnly(t, odd, []string{"a"}, of(-9, 0, api.Vec{-1, 5, 0, 0}))
	checkOnly(t, api.Txn{}, []string{""}, api.Txn{})
}

func TestP13_1OnlyOfEach(t *testing.T) {
	list := odds()
	for seed := range uint32(3000) {
		list = append(list, some(chance(seed)))
	}
	for _, x := range list {
		for _, z := range zones() {
			checkOnly(t, x, z, onlyOf(x, z))
		}
	}
}

func TestP13_1Dot(t *testing.T) {
	for _, node := range ints() {
		for _, seq := range ints() {
			for _, x := range []api.Txn{of(node, seq, nil), of(node, seq, api.Vec{5, 6, 7}, add(3, "a", "x", dot(1, 2, 3)), del(4, "b", dot(5, 6, 7)))} {
				if got, want := Dot(x), dot(node, seq, 0); got != want {
					t.Fatalf("Dot(%s) = %v; want %v", short(x), got, want)
				}
			}
		}
	}
}

// known are transactions, and their bytes by hand.
func known() []struct {
	x api.Txn
	b []byte
} {
	zeros := make([]byte, 8)
	return []struct {
		x api.Txn
		b []byte
	}{
		{of(1, 1, nil), []byte{1, 1, 0, 0}},
		{of(0, 1, nil), []byte{0, 1, 0, 0}},
		{of(7, 2, api.Vec{3, 0, 0, 0, 0, 0, 0, 1}), []byte{7, 2, 8, 3, 0, 0, 0, 0, 0, 0, 1, 0}},
		{of(1, 301, api.Vec{0, 300}), []byte{1, 0xad, 2, 2, 0, 0xac, 2, 0}},
		{of(2, 1, api.Vec{maxSeq}), []byte{2, 1, 1, 0x80, 0x80, 0x80, 0x80, 4, 0}},
		{of(1, 1, nil, add(0, "a", "x")), slices.Concat([]byte{1, 1, 0, 1, 0, 1, 'a', 0, 1, 1, 'x'}, zeros, []byte{0})},
		{of(1, 1, nil, api.Eff{At: 7, Key: "a/b", Field: "fg", Kind: 2}), slices.Concat([]byte{1, 1, 0, 1, 7, 3, 'a', '/', 'b', 2, 'f', 'g', 2, 0}, zeros, []byte{0})},
		{of(1, 1, nil, inc(2, "a", -2)), []byte{1, 1, 0, 1, 2, 1, 'a', 0, 3, 0, 0xfe, 0xff, 0xff, 0xff, 0xff, 0xff, 0xff, 0xff, 0}},
		{of(1, 1, nil, inc(2, "a", 0x0102030405060708)), []byte{1, 1, 0, 1, 2, 1, 'a', 0, 3, 0, 8, 7, 6, 5, 4, 3, 2, 1, 0}},
		{
			of(1, 2, api.Vec{300, 1}, del(3, "k", dot(0, 299, 5), dot(1, 1, 6)), add(4, "k", "\x00\xff", dot(1, 2, 3))),
			slices.Concat([]byte{1, 2, 2, 0xac, 2, 1, 2, 3, 1, 'k', 0, 0, 0}, zeros, []byte{2, 0, 0xab, 2, 5, 1, 1, 6, 4, 1, 'k', 0, 1, 2, 0, 0xff}, zeros, []byte{1, 1, 2, 3}),
		},
	}
}

func TestP13_2PutAndReadKnown(t *testing.T) {
	for _, c := range known() {
		checkPut(t, nil, c.x, c.b)
		checkPut(t, []byte("xy"), c.x, append([]byte("xy"), c.b...))
		checkRead(t, c.b, c.x, nil)
		checkRead(t, append(slices.Clone(c.b), "xy"...), c.x, []byte("xy"))
	}
}

// tails are bytes that may stand ahead of a transaction's, or behind them.
func tails() [][]byte {
	return [][]byte{nil, {}, {0}, {1}, {0x80}, {0xff, 0x7f}, []byte("xyz"), {1, 1, 0, 0}, bytes.Repeat([]byte{0x80}, 9), bytes.Repeat([]byte{0}, 20)}
}

func TestP13_2PutEach(t *testing.T) {
	for _, x := range append(rights(), someRights(t, 1000)...) {
		for _, b := range tails() {
			checkPut(t, b, x, slices.Concat(b, bytesOf(x)))
		}
	}
}

func TestP13_2PutOfNone(t *testing.T) {
	for _, x := range append(wrongs(), unputs()...) {
		for _, b := range tails() {
			checkPutErr(t, b, x)
		}
	}
	n := 0
	for seed := range uint32(10000) {
		if x := some(chance(seed)); !isFormed(x) {
			checkPutErr(t, []byte{1}, x)
			n++
		}
	}
	if n < 1000 {
		t.Fatalf("%d are not formed", n)
	}
}

func TestP13_2PutBehindSpareRoom(t *testing.T) {
	for _, x := range append(rights(), wrongs()...) {
		for _, ahead := range tails() {
			for _, room := range []int{0, 1, 4, 100, 10000} {
				whole := append(slices.Clone(ahead), bytes.Repeat([]byte{0xee}, room)...)
				before := slices.Clone(whole)
				got, err := Put(whole[:len(ahead)], x)
				if !bytes.Equal(whole, before) {
					t.Fatalf("Put(%s, %s) changed what it was handed, or its spare room", short(ahead), short(x))
				}
				if want, wantErr := Put(ahead, x); !bytes.Equal(got, want) || err != wantErr {
					t.Fatalf("spare room tells: Put(%s, %s) = %s, %d; want %s, %d", short(ahead), short(x), short(got), err, short(want), wantErr)
				}
			}
		}
	}
}

func TestP13_2ReadCut(t *testing.T) {
	checkReadErr(t, nil, api.ErrShort)
	checkReadErr(t, []byte{}, api.ErrShort)
	for _, x := range append(rights(), someRights(t, 300)...) {
		b := bytesOf(x)
		for n := range b {
			checkReadErr(t, b[:n], api.ErrShort)
			checkReadErr(t, b[:n:n], api.ErrShort)
		}
		checkRead(t, b, x, nil)
	}
}

func TestP13_2ReadBehind(t *testing.T) {
	for _, x := range append(rights(), someRights(t, 1000)...) {
		b := bytesOf(x)
		for _, rest := range append(tails(), b, bytes.Repeat([]byte{0xff}, 10000)) {
			checkRead(t, slices.Concat(b, rest), x, rest)
		}
	}
}

func TestP13_2ReadNotFormed(t *testing.T) {
	for _, x := range wrongs() {
		b := bytesOf(x)
		checkReadErr(t, b, api.ErrForm)
		checkReadErr(t, append(slices.Clone(b), 1, 2, 3), api.ErrForm)
		// That it is not formed is told at the end alone, behind what else is wrong.
		for n := range b {
			checkReadErr(t, b[:n], api.ErrShort)
		}
	}
	n := 0
	for seed := range uint32(10000) {
		if x := some(chance(seed)); !isFormed(x) {
			checkReadErr(t, bytesOf(x), api.ErrForm)
			n++
		}
	}
	if n < 1000 {
		t.Fatalf("%d are not formed", n)
	}
}

// over is the form of a number with one byte more than it has.
func over(n int) []byte {
	b := lay(n)
	b[len(b)-1] |= 0x80
	return append(b, 0)
}

// endless are bytes of which no number ends.
func endless(n int) []byte { return bytes.Repeat([]byte{0x80}, n) }

func TestP13_2ReadTooMany(t *testing.T) {
	effect := func(at, drops int) []byte { return lay(at, "a", "", 1, "x", int64(0), drops) }
	dropped := func(n int) []byte {
		var b []byte
		for _, d := range rising(n) {
			b = append(b, lay(d.Node, d.Seq, d.At)...)
		}
		return b
	}
	deps := []byte{4, 4, 4, 4, 4, 4, 4, 4}
	effects := func(n int) []byte {
		var b []byte
		for at := range n {
			b = append(b, effect(at, 0)...)
		}
		return b
	}
	// As many as may be: with nothing behind the number, with part of them, with all.
	for _, c := range []struct{ ahead, all []byte }{
		{lay(0, 5, 8), lay(deps, 0)},
		{lay(1, 1, 0, 8), effects(8)},
		{lay(0, 5, 8, deps, 1, effect(0, 64)), dropped(64)},
		{lay(0, 5, 8, deps, 2, effect(0, 0), effect(1, 64)), dropped(64)},
	} {
		for n := range c.all {
			checkReadErr(t, lay(c.ahead, c.all[:n]), api.ErrShort)
		}
		if got, rest, err := Read(lay(c.ahead, c.all, 9)); err != api.OK || !bytes.Equal(rest, []byte{9}) || len(got.Deps)+len(got.Effs) < 8 {
			t.Fatalf("Read(%x) = %s, %x, %d", lay(c.ahead, c.all, 9), short(got), rest, err)
		}
	}
	// More: as soon as that number is read, whatever stands behind it.
	for _, c := range []struct {
		ahead []byte
		most  int
		all   []byte
	}{
		{lay(0, 5), 8, lay(deps, deps, 0)},
		{lay(1, 1, 0), 8, effects(9)},
		{lay(0, 5, 8, deps), 8, effects(9)},
		{lay(0, 5, 8, deps, 1, 0, "a", "", 1, "x", int64(0)), 64, dropped(70)},
		{lay(0, 5, 8, deps, 8, effects(7), 7, "a", "", 1, "x", int64(0)), 64, dropped(70)},
	} {
		for _, n := range []int{c.most + 1, c.most + 2, 127, 128, 300, api.MaxText, 1 << 31, 1 << 32, 1<<32 + 1, 1<<56 - 1} {
			b := lay(c.ahead, n)
			checkReadErr(t, b, api.ErrForm)
			checkReadErr(t, lay(b, c.all), api.ErrForm)
			checkReadErr(t, lay(b, endless(9)), api.ErrForm)
			checkReadErr(t, lay(b, make([]byte, 1000)), api.ErrForm)
			checkReadErr(t, lay(b, 1, api.MaxText+1), api.ErrForm)
			for short := len(c.ahead); short < len(b); short++ {
				checkReadErr(t, b[:short], api.ErrShort)
			}
		}
	}
}

func TestP13_2ReadNumbersInAnotherForm(t *testing.T) {
	for _, x := range append(rights(), someRights(t, 100)...) {
		parts := partsOf(x)
		for i, part := range parts {
			ahead, behind := lay(parts[:i]...), lay(parts[i+1:]...)
			n, isNum := part.(int)
			if s, isText := part.(string); isText {
				n, isNum = len(s), true
				behind = lay([]byte(s), behind)
			}
			if !isNum {
				continue
			}
			checkReadErr(t, lay(ahead, over(n), behind), api.ErrForm)
			checkReadErr(t, lay(ahead, over(n)), api.ErrForm)
			checkReadErr(t, lay(ahead, endless(8), behind), api.ErrForm)
			checkReadErr(t, lay(ahead, endless(8)), api.ErrForm)
			checkReadErr(t, lay(ahead, endless(7), 0), api.ErrForm)
			checkReadErr(t, lay(ahead, endless(7)), api.ErrShort)
			checkReadErr(t, lay(ahead, endless(1)), api.ErrShort)
		}
	}
}

func TestP13_2ReadTexts(t *testing.T) {
	for _, x := range []api.Txn{everyPart(), of(1, 1, nil, add(0, "a", "x"))} {
		parts := partsOf(x)
		for i, part := range parts {
			s, isText := part.(string)
			if !isText {
				continue
			}
			ahead, behind := lay(parts[:i]...), lay(parts[i+1:]...)
			room := bytes.Repeat([]byte{'a'}, 2*api.MaxText)
			// A text that is longer than what stands there.
			for _, n := range []int{len(s) + 1, 17, 33, 127, 128, 300, api.MaxText - 1, api.MaxText} {
				checkReadErr(t, lay(ahead, n, []byte(s)), api.ErrShort)
				checkReadErr(t, lay(ahead, n, room[:n-1]), api.ErrShort)
				if left := lay([]byte(s), behind); len(left) < n {
					checkReadErr(t, lay(ahead, n, left), api.ErrShort)
				}
			}
			// One that is longer than a text may be, be it there or not.
			for _, n := range []int{api.MaxText + 1, api.MaxText + 2, 1 << 17, 1 << 32, 1<<32 + 1, 1<<56 - 1} {
				checkReadErr(t, lay(ahead, n), api.ErrLong)
				checkReadErr(t, lay(ahead, n, []byte(s), behind), api.ErrLong)
				checkReadErr(t, lay(ahead, n, room, behind), api.ErrLong)
			}
			// One that is too long for a transaction is read, and the transaction is not formed; what is wrong behind it comes first.
			for _, n := range []int{33, 34, 127, 128, 1 << 14, api.MaxText - 1, api.MaxText} {
				b := lay(ahead, n, room[:n])
				checkReadErr(t, b, api.ErrShort)
				checkReadErr(t, lay(b, behind), api.ErrForm)
				checkReadErr(t, lay(b, behind[:len(behind)-1]), api.ErrShort)
			}
		}
	}
}

func TestP13_2ReadTextsOfAllLengths(t *testing.T) {
	for n := range 200 {
		s := strings.Repeat("a\xff", 100)[:n]
		ascii := strings.Repeat("a", n)
		for i, x := range []api.Txn{of(1, 1, nil, add(3, "a", s)), of(1, 1, nil, add(3, ascii, "x")), of(1, 1, nil, api.Eff{Key: "a", Field: ascii, Kind: 3, N: -1})} {
			may := []bool{n <= 32, n >= 1 && n <= 16, n <= 16}[i]
			if b := bytesOf(x); may {
				checkRead(t, append(b, 5), x, []byte{5})
			} else {
				checkReadErr(t, b, api.ErrForm)
			}
		}
	}
}

// fault is what may be wrong with the bytes at some place of a transaction: these stand there, and tell that error, or (late) tell that one at the end.
type fault struct {
	b    []byte
	err  api.Errno
	late bool
}

// faults are what may be wrong with a part of a transaction, the i-th of parts.
func faults(parts []any, i int) []fault {
	var l []fault
	switch x := parts[i].(type) {
	case int:
		l = append(l, fault{over(x), api.ErrForm, false}, fault{endless(9), api.ErrForm, false})
	case string:
		l = append(l, fault{lay(over(len(x)), []byte(x)), api.ErrForm, false}, fault{lay(api.MaxText + 1), api.ErrLong, false}, fault{lay(strings.Repeat("B", 99)), api.ErrForm, true})
	}
	return l
}

// countsOf are the places of parts at which the number of a list stands, and how many it has at most.
func countsOf(t api.Txn) map[int]int {
	at := 3 + len(t.Deps)
	l := map[int]int{2: 8, at: 8}
	for _, e := range t.Effs {
		l[at+7] = 64
		at += 7 + 3*len(e.Drops)
	}
	return l
}

func TestP13_2ReadTwoErrors(t *testing.T) {
	x := everyPart()
	parts := partsOf(x)
	counts := countsOf(x)
	all := make([][]fault, len(parts))
	for i := range parts {
		all[i] = faults(parts, i)
		if most, isCount := counts[i]; isCount {
			all[i] = append(all[i], fault{lay(most + 1), api.ErrForm, false})
		} else if _, isNum := parts[i].(int); isNum {
			all[i] = append(all[i], fault{lay(1<<56 - 1), api.ErrForm, true})
		}
	}
	// with is the bytes with some faults in them.
	with := func(i, j int, a, b fault) []byte {
		return lay(lay(parts[:i]...), a.b, lay(parts[i+1:j]...), b.b, lay(parts[j+1:]...))
	}
	for i := range parts {
		for _, a := range all[i] {
			for j := i + 1; j < len(parts); j++ {
				for _, b := range all[j] {
					want := a.err
					if a.late && !b.late {
						want = b.err
					}
					checkReadErr(t, with(i, j, a, b), want)
				}
				// What ends behind the first fault is short only if that one is told at the end.
				short := lay(lay(parts[:i]...), a.b, lay(parts[i+1:j]...))
				want := a.err
				if a.late {
					want = api.ErrShort
				}
				checkReadErr(t, short, want)
			}
		}
	}
}

func TestP13_2ReadTwoErrorsKnown(t *testing.T) {
	long := api.MaxText + 1
	text := "a"
	for _, c := range []struct {
		b    []byte
		want api.Errno
	}{
		{lay(over(1)), api.ErrForm},
		{lay(endless(8)), api.ErrForm},
		{lay(endless(7)), api.ErrShort},
		{lay(8), api.ErrShort},
		{lay(8, 1, 0), api.ErrShort},
		{lay(8, 1, 0, 0), api.ErrForm},
		{lay(8, 1, 9), api.ErrForm},
		{lay(8, 1, 8), api.ErrShort},
		{lay(1, 1, 9, over(1)), api.ErrForm},
		{lay(1, 1, over(0), 9), api.ErrForm},
		{lay(1, 1, 0, 1, 0, long), api.ErrLong},
		{lay(8, 0, 0, 1, 9, long), api.ErrLong},
		{lay(8, 0, 9, 1, 9, long), api.ErrForm},
		{lay(1, 1, 0, 9, 0, long), api.ErrForm},
		{lay(1, 1, 0, 1, 0, long, 9, over(1)), api.ErrLong},
		{lay(1, 1, 0, 1, 0, over(1), long), api.ErrForm},
		{lay(1, 1, 0, 1, 0, text, long), api.ErrLong},
		{lay(1, 1, 0, 1, 0, text, "F"), api.ErrShort},
		{lay(1, 1, 0, 1, 0, text, "F", 1, long), api.ErrLong},
		{lay(1, 1, 0, 1, 0, text, "F", 1, "x", int64(0), 65), api.ErrForm},
		{lay(1, 1, 0, 1, 0, text, "", 1, "x", int64(0), 64), api.ErrShort},
		{lay(1, 1, 0, 1, 0, text, "", 1, "x", int64(0), 65), api.ErrForm},
		{lay(1, 1, 0, 1, 0, text, "", 1, "x", make([]byte, 7)), api.ErrShort},
		{lay(1, 1, 0, 2, 0, text, "", 1, "x", int64(0), 65, 1, long), api.ErrForm},
		{lay(1, 1, 0, 2, 0, text, "", 1, "x", int64(0), 1, 0, 1, 0, 1, long), api.ErrLong},
		{lay(1, 1, 0, 2, 0, long, "", 1, "x", int64(0), 65), api.ErrLong},
	} {
		checkReadErr(t, c.b, c.want)
		if _, _, err := readOf(c.b); err != c.want {
			t.Fatalf("the words of these tests tell %d of %x; want %d", err, c.b, c.want)
		}
	}
}

func TestP13_2ReadAllShortBytes(t *testing.T) {
	told := map[api.Errno]int{}
	for _, b := range rows[byte](7, 0, 1, 2, 8, 9, 0x80) {
		told[checkWords(t, b)]++
	}
	if told[api.OK] < 100 || told[api.ErrForm] < 1000 || told[api.ErrShort] < 1000 {
		t.Fatalf("of these bytes the errors are %v", told)
	}
	// An effect's beginning with all short lists behind it.
	for _, b := range rows[byte](6, 0, 1, 3, 65, 0x80, 'a') {
		for _, ahead := range [][]byte{lay(1, 1, 0, 1, 0), lay(1, 1, 1, 1, 1, 0, "a", "", 1, "x", int64(0)), lay(1, 1, 0, 1, 0, "a", "", 3, "", make([]byte, 6))} {
			told[checkWords(t, lay(ahead, b))]++
		}
	}
	for one := range 256 {
		for two := range 256 {
			checkWords(t, []byte{byte(one), byte(two), 0, 0, 0})
			checkWords(t, []byte{1, byte(one), byte(two), 0, 0, 0})
			checkWords(t, []byte{1, 1, byte(one), byte(two), 0, 0, 0})
		}
	}
}

// turned is b with a few bytes changed, taken out, put in or doubled.
func turned(b []byte, next func(int) int) []byte {
	b = slices.Clone(b)
	for range 1 + next(3) {
		at := next(len(b) + 1)
		switch next(4) {
		case 0:
			b = b[:at]
		case 1:
			b = slices.Insert(b, at, byte(next(256)))
		case 2:
			b = slices.Insert(b, at, endless(next(9))...)
		default:
			if at < len(b) {
				b[at] = []byte{0, 1, 9, 65, 0x80, 0xff, b[at] ^ 1, b[at] + 1, byte(next(256))}[next(9)]
			}
		}
	}
	return b
}

func TestP13_2ReadTurnedBytes(t *testing.T) {
	told := map[api.Errno]int{}
	list := append(rights(), wrongs()...)
	for seed := range uint32(60000) {
		next := chance(seed)
		x := list[next(len(list))]
		if next(2) == 0 {
			x = some(next)
		}
		told[checkWords(t, turned(bytesOf(x), next))]++
	}
	if told[api.OK] < 1000 || told[api.ErrForm] < 1000 || told[api.ErrShort] < 1000 || told[api.ErrLong] < 30 {
		t.Fatalf("of these bytes the errors are %v", told)
	}
}

func TestP13_2ReadEachByteTurned(t *testing.T) {
	for _, x := range []api.Txn{of(1, 1, nil), everyPart(), rights()[21]} {
		b := bytesOf(x)
		for i := range b {
			for c := range 256 {
				other := slices.Clone(b)
				other[i] = byte(c)
				checkWords(t, other)
			}
		}
	}
}

func TestP13_2ReadOfLongRests(t *testing.T) {
	// Long enough that the time tells where the rest is copied with each number.
	rest := bytes.Repeat([]byte{0xab}, 1<<25)
	for _, x := range []api.Txn{of(1, 1, nil), full()} {
		b := bytesOf(x)
		got, left, err := Read(append(b, rest...))
		if !same(got, x) || !bytes.Equal(left, rest) || err != api.OK {
			t.Fatalf("Read of %s and much behind it = %s, %d bytes, %d", short(b), short(got), len(left), err)
		}
	}
	checkReadErr(t, rest, api.ErrForm)
	checkReadErr(t, make([]byte, 1<<24), api.ErrForm)
	checkReadErr(t, endless(1<<24), api.ErrForm)
	checkReadErr(t, bytes.Repeat([]byte{1}, 1<<24), api.ErrForm)
}

func TestP13_3WhatWasPutIsRead(t *testing.T) {
	for _, x := range append(rights(), someRights(t, 2000)...) {
		for _, ahead := range tails() {
			for _, rest := range tails() {
				b, err := Put(ahead, x)
				if err != api.OK || !bytes.HasPrefix(b, ahead) {
					t.Fatalf("Put(%s, %s) = %s, %d", short(ahead), short(x), short(b), err)
				}
				checkRead(t, slices.Concat(b[len(ahead):], rest), x, rest)
			}
		}
	}
}

func TestP13_3OneBehindTheOther(t *testing.T) {
	list := append(rights(), someRights(t, 500)...)
	var b []byte
	for _, x := range list {
		var err api.Errno
		if b, err = Put(b, x); err != api.OK {
			t.Fatalf("Put(.., %s): %d", short(x), err)
		}
	}
	for _, x := range list {
		got, rest, err := Read(b)
		if err != api.OK || !same(got, x) {
			t.Fatalf("Read = %s, %d; want %s", short(got), err, short(x))
		}
		b = rest
	}
	if len(b) != 0 {
		t.Fatalf("%d bytes are left", len(b))
	}
}

// checkPutAgain asks that what is read is put as it stood, and tells whether it is read.
func checkPutAgain(t *testing.T, b []byte) bool {
	t.Helper()
	x, rest, err := Read(b)
	if err != api.OK {
		return false
	}
	checkFormed(t, x, true)
	again, err := Put(nil, x)
	if err != api.OK || !bytes.Equal(slices.Concat(again, rest), b) {
		t.Fatalf("Read(%s) = %s, %s; that is put as %s, %d", short(b), short(x), short(rest), short(again), err)
	}
	return true
}

func TestP13_3WhatIsReadIsPutAsItStood(t *testing.T) {
	n := 0
	for _, b := range rows[byte](6, 0, 1, 2, 3, 8, 0x80) {
		if checkPutAgain(t, b) {
			n++
		}
	}
	list := rights()
	for seed := range uint32(40000) {
		next := chance(seed)
		x := list[next(len(list))]
		if next(2) == 0 {
			x = some(next)
		}
		if checkPutAgain(t, turned(bytesOf(x), next)) {
			n++
		}
	}
	if n < 2000 {
		t.Fatalf("only %d of these bytes are read", n)
	}
}

func TestP13_3OnlyOfAFormedOneIsFormed(t *testing.T) {
	for _, x := range append(rights(), someRights(t, 3000)...) {
		for _, z := range zones() {
			part := Only(x, z)
			checkFormed(t, part, true)
			checkOnly(t, part, z, part)
			if Dot(part) != Dot(x) {
				t.Fatalf("Only(%s, %q) = %s has another Dot", short(x), z, short(part))
			}
			b, err := Put(nil, part)
			if err != api.OK {
				t.Fatalf("Put(nil, Only(%s, %q)): %d", short(x), z, err)
			}
			checkRead(t, b, part, nil)
		}
	}
}

// spare is a list that has more behind it as its spare room, and the whole of it.
func spare[T any](l []T, more ...T) (whole, laid []T) {
	whole = slices.Concat(l, more)
	return whole, whole[:len(l)]
}

// spareTxn is x with more behind each of its lists as spare room.
func spareTxn(x api.Txn) api.Txn {
	_, x.Deps = spare(x.Deps, 5, 6, 7)
	whole, laid := spare(x.Effs, add(3, "s", "p", rising(2)...), del(4, "s", rising(3)...))
	for i := range whole {
		_, whole[i].Drops = spare(whole[i].Drops, dot(5, 5, 5), dot(0, 1, 0))
	}
	x.Effs = laid
	return x
}

// deep is a copy of x that shares nothing, each list with its spare room as a part of it.
func deep(x api.Txn) api.Txn {
	x.Deps = slices.Clone(x.Deps[:cap(x.Deps)])
	x.Effs = slices.Clone(x.Effs[:cap(x.Effs)])
	for i, e := range x.Effs {
		x.Effs[i].Drops = slices.Clone(e.Drops[:cap(e.Drops)])
	}
	return x
}

// turn changes all of a list, spare room and all.
func turn[T any](l []T, to T) {
	l = l[:cap(l)]
	for i := range l {
		l[i] = to
	}
}

// turnTxn changes all lists of x, spare room and all.
func turnTxn(x api.Txn) {
	turn(x.Deps, 77)
	for _, e := range x.Effs[:cap(x.Effs)] {
		turn(e.Drops, dot(9, 9, 9))
	}
	turn(x.Effs, api.Eff{Key: "turned"})
}

func TestP13_1NothingIsChangedOrShared(t *testing.T) {
	for _, list := range append(odds(), someRights(t, 100)...) {
		for _, covered := range zones() {
			wholeZone, z := spare(covered, "", "a", "A")
			x := spareTxn(list)
			before, beforeZone := deep(x), slices.Clone(wholeZone)
			kept := func(what string) {
				t.Helper()
				if !same(deep(x), before) || !slices.Equal(wholeZone, beforeZone) {
					t.Fatalf("%s of %s, %q: what was handed in, or its spare room, was changed, or is shared", what, short(list), covered)
				}
			}
			if Formed(x) != isFormed(list) || Dot(x) != dot(list.Node, list.Seq, 0) {
				t.Fatalf("spare room tells in Formed or Dot of %s", short(list))
			}
			one, two := Only(x, z), Only(x, z)
			kept("Formed, Dot or Only")
			want := onlyOf(list, covered)
			turnTxn(one)
			kept("Only")
			if !same(two, want) {
				t.Fatalf("two answers of Only(%s, %q) share: %s", short(list), covered, short(two))
			}
			turnTxn(x)
			if !same(two, want) {
				t.Fatalf("Only(%s, %q) keeps what was handed in: %s", short(list), covered, short(two))
			}
		}
	}
}

func TestP13_2NothingIsChangedOrSharedByPut(t *testing.T) {
	for _, list := range append(odds(), someRights(t, 100)...) {
		for _, ahead := range tails() {
			wholeBytes, b := spare(ahead, bytes.Repeat([]byte{0xee}, 50)...)
			x := spareTxn(list)
			before, beforeBytes := deep(x), slices.Clone(wholeBytes)
			one, err := Put(b, x)
			two, _ := Put(b, x)
			var want []byte
			if err == api.OK {
				want = slices.Concat(ahead, bytesOf(list))
			}
			turn(one, 0xdd)
			if !same(deep(x), before) || !bytes.Equal(wholeBytes, beforeBytes) {
				t.Fatalf("Put(%s, %s): what was handed in, or its spare room, was changed, or is shared", short(ahead), short(list))
			}
			turn(wholeBytes, 0xcc)
			if !bytes.Equal(two, want) {
				t.Fatalf("Put(%s, %s) shares: %s; want %s", short(ahead), short(list), short(two), short(want))
			}
		}
	}
}

func TestP13_2NothingIsChangedOrSharedByRead(t *testing.T) {
	for _, x := range append(rights(), someRights(t, 100)...) {
		for _, tail := range tails() {
			form := lay(bytesOf(x), tail)
			whole, b := spare(form, 1, 1, 0, 0, 9)
			before := slices.Clone(whole)
			one, oneRest, err := Read(b)
			two, twoRest, _ := Read(b)
			if err != api.OK || !bytes.Equal(whole, before) {
				t.Fatalf("Read(%s) errs with %d, or what was handed in, or its spare room, was changed", short(b), err)
			}
			turnTxn(one)
			turn(oneRest, 0xdd)
			if !bytes.Equal(whole, before) || !same(two, x) || !bytes.Equal(twoRest, tail) {
				t.Fatalf("Read(%s): an answer shares with what was handed in, or with another one", short(before))
			}
			turn(whole, 0xcc)
			if !same(two, x) || !bytes.Equal(twoRest, tail) {
				t.Fatalf("Read(%s) keeps what was handed in: %s, %s", short(before), short(two), short(twoRest))
			}
		}
	}
	for _, x := range wrongs() {
		whole, b := spare(bytesOf(x), 1, 1, 0, 0, 9)
		before := slices.Clone(whole)
		Read(b)
		if !bytes.Equal(whole, before) {
			t.Fatalf("Read(%s) changed what was handed in, or its spare room", short(before))
		}
	}
}

func TestP13_2ListsOfOneAnswerAreApart(t *testing.T) {
	drops := rising(4)
	x := of(5, 1, api.Vec{4}, add(0, "a", "x", drops...), add(1, "a", "y", drops...), add(2, "a", "z", drops[:2]...))
	b := bytesOf(x)
	read, _, err := Read(b)
	for _, got := range []api.Txn{Only(x, []string{"a"}), read} {
		if err != api.OK || !same(got, x) {
			t.Fatalf("the answer is %s, %d; want %s", short(got), err, short(x))
		}
		turn(got.Effs[0].Drops, dot(9, 9, 9))
		_ = append(got.Effs[2].Drops, dot(8, 8, 8))
		_ = append(got.Deps, 8)
		if !slices.Equal(got.Effs[1].Drops, rising(4)) || !slices.Equal(got.Effs[2].Drops, rising(2)) || !slices.Equal(got.Deps, api.Vec{4}) {
			t.Fatalf("lists of one answer share: %s", short(got))
		}
	}
	if !slices.Equal(drops, rising(4)) {
		t.Fatalf("an answer shares Drops that were handed in: %v", drops)
	}
}

func TestP13_2SameEachTime(t *testing.T) {
	for _, x := range append(odds(), someRights(t, 50)...) {
		b, err := Put([]byte{7}, x)
		for range 10 {
			got, gotErr := Put([]byte{7}, x)
			if !bytes.Equal(got, b) || gotErr != err {
				t.Fatalf("Put(07, %s) = %s, %d, and then %s, %d", short(x), short(b), err, short(got), gotErr)
			}
			checkOnly(t, x, []string{"a", "b"}, onlyOf(x, []string{"a", "b"}))
			checkFormed(t, x, err == api.OK)
			if err == api.OK {
				checkRead(t, b[1:], x, nil)
			}
		}
	}
}
