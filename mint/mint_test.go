package mint

import (
	"fmt"
	"math"
	"math/big"
	"regexp"
	"slices"
	"strings"
	"testing"

	"buttery/api"
	"buttery/eff"
	"buttery/item"
	"buttery/view"
)

const (
	top    = math.MaxInt64
	bottom = math.MinInt64
)

// keyForm and fieldForm are how the document tells a key and a prefix.
var (
	keyForm   = regexp.MustCompile(`\A[a-z0-9/]{1,16}\z`)
	fieldForm = regexp.MustCompile(`\A[a-z0-9/]{0,16}\z`)
)

// texts, ints and edges are values of the parts of requests and of items: such as may be, and such as may not.
func texts() []string {
	return []string{
		"", "\x00", " ", "/", "//", "0", "9", "A", "Z", "a", "a\x00", "a/b", "a0", "z", "é", "\xff", "{", "`", ":", ".",
		strings.Repeat("a", 16), strings.Repeat("a", 17), strings.Repeat("a", 32), strings.Repeat("a", 33), strings.Repeat("é", 16), strings.Repeat("é", 17), strings.Repeat("\xff", 32),
	}
}

func ints() []int {
	return []int{math.MinInt, -1 << 40, -1<<32 + 1, -5, -1, 0, 1, 2, 3, 4, 5, 6, 7, 8, 1<<8 + 1, 1<<16 + 2, 1<<30 - 1, 1 << 30, 1<<30 + 1, 1 << 31, 1 << 32, 1<<32 + 1, 1<<32 + 5, math.MaxInt}
}

func edges() []int64 {
	return []int64{bottom, bottom + 1, bottom / 2, -1 << 32, -2, -1, 0, 1, 2, 1 << 32, top / 2, top/2 + 1, top - 1, top}
}

// dot is the dot of those parts.
func dot(node, seq, at int) api.Dot { return api.Dot{Node: node, Seq: seq, At: at} }

// elem, reg and count are items of that kind under the field "f" of the key "k".
func elem(e string, d api.Dot) api.Item {
	return api.Item{Key: "k", Field: "f", Kind: api.Elem, Elem: e, Dot: d}
}

func reg(e string, d api.Dot) api.Item {
	return api.Item{Key: "k", Field: "f", Kind: api.Reg, Elem: e, Dot: d}
}

func count(n int64, d api.Dot) api.Item {
	return api.Item{Key: "k", Field: "f", Kind: api.Count, N: n, Dot: d}
}

// add, del, put, inc and drop are requests to the field "f" of the key "k".
func add(e string) api.Req { return api.Req{Op: api.Add, Key: "k", Field: "f", Elem: e} }

func del(e string) api.Req { return api.Req{Op: api.Del, Key: "k", Field: "f", Elem: e} }

func put(e string) api.Req { return api.Req{Op: api.Put, Key: "k", Field: "f", Elem: e} }

func inc(n int64) api.Req { return api.Req{Op: api.Inc, Key: "k", Field: "f", N: n} }

func drop() api.Req { return api.Req{Op: api.Drop, Key: "k", Field: "f"} }

// makes is an effect under the field "f" of the key "k" that makes an item of that kind, or none.
func makes(at, kind int, e string, n int64, drops ...api.Dot) api.Eff {
	return api.Eff{At: at, Key: "k", Field: "f", Kind: kind, Elem: e, N: n, Drops: drops}
}

// at is q as a request to another field.
func at(key, field string, q api.Req) api.Req {
	q.Key, q.Field = key, field
	return q
}

// under is x as an item of another field.
func under(key, field string, x api.Item) api.Item {
	x.Key, x.Field = key, field
	return x
}

// reqs and effs are lists of these.
func reqs(l ...api.Req) []api.Req { return l }

func effs(l ...api.Eff) []api.Eff { return l }

func list(l ...api.Item) []api.Item { return l }

// oneOfEach is a request of each Op, formed.
func oneOfEach() []api.Req { return reqs(add("x"), del("x"), put("x"), inc(3), drop()) }

// ahead tells whether dot a stands ahead of dot b.
func ahead(a, b api.Dot) bool {
	if a.Node != b.Node {
		return a.Node < b.Node
	}
	if a.Seq != b.Seq {
		return a.Seq < b.Seq
	}
	return a.At < b.At
}

// isFormed is what the document says of a request that is formed.
func isFormed(q api.Req) bool {
	if q.Op < 1 || q.Op > 5 || !keyForm.MatchString(q.Key) || !fieldForm.MatchString(q.Field) || len(q.Elem) > 32 {
		return false
	}
	if (q.Op == 4 || q.Op == 5) && q.Elem != "" {
		return false
	}
	return q.N == 0 || q.Op == 4
}

// isDropped is what the document says of an item that a request drops.
func isDropped(x api.Item, node int, q api.Req) bool {
	same := x.Key == q.Key && x.Field == q.Field
	switch q.Op {
	case 1, 2:
		return same && x.Kind == 1 && x.Elem == q.Elem
	case 3:
		return same && x.Kind == 2
	case 4:
		return same && x.Kind == 3 && x.Dot.Node == node
	case 5:
		return same
	}
	return false
}

// effOf is what the document says of the effect of one request; its N is told by a number without an end.
func effOf(items []api.Item, node, i int, q api.Req) (api.Eff, api.Errno) {
	e := api.Eff{At: i, Key: q.Key, Field: q.Field}
	n := big.NewInt(q.N)
	for _, x := range items {
		if !isDropped(x, node, q) {
			continue
		}
		n.Add(n, big.NewInt(x.N))
		place := 0
		for place < len(e.Drops) && ahead(e.Drops[place], x.Dot) {
			place++
		}
		if place == len(e.Drops) || e.Drops[place] != x.Dot {
			e.Drops = slices.Insert(e.Drops, place, x.Dot)
		}
	}
	if len(e.Drops) > 64 {
		return e, api.ErrLong
	}
	switch q.Op {
	case 1:
		e.Kind, e.Elem = 1, q.Elem
	case 3:
		e.Kind, e.Elem = 2, q.Elem
	case 4:
		if !n.IsInt64() {
			return e, api.ErrOver
		}
		e.Kind, e.N = 3, n.Int64()
	}
	return e, api.OK
}

// makeOf is what the document says of Make.
func makeOf(items []api.Item, node, seq int, l []api.Req) ([]api.Eff, api.Errno) {
	if node < 0 || node > 7 || seq < 1 || seq > 1073741824 {
		return nil, api.ErrArg
	}
	if len(l) > 8 {
		return nil, api.ErrLong
	}
	for _, q := range l {
		if !isFormed(q) {
			return nil, api.ErrForm
		}
	}
	var r []api.Eff
	for i, q := range l {
		e, err := effOf(items, node, i, q)
		if err != api.OK {
			return nil, err
		}
		if (q.Op == 2 || q.Op == 5) && len(e.Drops) == 0 {
			continue
		}
		r = append(r, e)
		items = eff.Do(items, node, seq, effs(e))
		if q.Op == 4 && view.Field(items, q.Key, q.Field).Over {
			return nil, api.ErrOver
		}
	}
	return r, api.OK
}

// sameEff tells whether two effects are the same, Drops that are nil like empty ones.
func sameEff(a, b api.Eff) bool {
	return a.At == b.At && a.Key == b.Key && a.Field == b.Field && a.Kind == b.Kind && a.Elem == b.Elem && a.N == b.N && slices.Equal(a.Drops, b.Drops)
}

// short tells a value, no longer than one can read.
func short(v any) string {
	s := fmt.Sprintf("%+q", fmt.Sprintf("%+v", v))
	if len(s) > 1500 {
		return s[:1500] + ".."
	}
	return s
}

func checkFormed(t *testing.T, q api.Req, want bool) {
	t.Helper()
	if got := Formed(q); got != want {
		t.Fatalf("Formed(%s) = %t; want %t", short(q), got, want)
	}
}

// check holds Make against these effects, made without an error.
func check(t *testing.T, items []api.Item, node, seq int, l []api.Req, want ...api.Eff) {
	t.Helper()
	got, err := Make(items, node, seq, l)
	if err != api.OK || !slices.EqualFunc(got, want, sameEff) {
		t.Fatalf("Make(%s, %d, %d, %s) = %s, %d; want %s", short(items), node, seq, short(l), short(got), err, short(want))
	}
}

// checkErr holds Make against this error, beside which there are no effects.
func checkErr(t *testing.T, items []api.Item, node, seq int, l []api.Req, want api.Errno) {
	t.Helper()
	got, err := Make(items, node, seq, l)
	if err != want || len(got) != 0 {
		t.Fatalf("Make(%s, %d, %d, %s) = %s, %d; want error %d", short(items), node, seq, short(l), short(got), err, want)
	}
}

// checkWords holds Make against what the document says, and tells whether there was an error.
func checkWords(t *testing.T, items []api.Item, node, seq int, l []api.Req) api.Errno {
	t.Helper()
	want, err := makeOf(items, node, seq, l)
	if err != api.OK {
		checkErr(t, items, node, seq, l, err)
	} else {
		check(t, items, node, seq, l, want...)
	}
	return err
}

// rows are all lists of at most so many of these.
func rows[T any](most int, of ...T) [][]T {
	l := [][]T{nil}
	for from := 0; most > 0; most-- {
		end := len(l)
		for _, row := range l[from:end] {
			for _, x := range of {
				l = append(l, append(slices.Clone(row), x))
			}
		}
		from = end
	}
	return l
}

// chance answers numbers below what it is asked, always the same ones for a seed.
func chance(seed uint32) func(below int) int {
	state := seed*2654435761 + 12345
	return func(below int) int {
		state = state*1664525 + 1013904223
		return int(state >> 8 % uint32(below))
	}
}

// shuffle is l in another order.
func shuffle[T any](l []T, next func(int) int) []T {
	r := slices.Clone(l)
	for i := len(r) - 1; i > 0; i-- {
		j := next(i + 1)
		r[i], r[j] = r[j], r[i]
	}
	return r
}

// spare is a list that has more behind it as its spare room, and the whole of it.
func spare[T any](l []T, more ...T) (whole, laid []T) {
	whole = slices.Concat(l, more)
	return whole, whole[:len(l)]
}

// many are n copies of x, each by a dot of its own.
func many(n, node int, x api.Item) []api.Item {
	var l []api.Item
	for i := range n {
		x.Dot = dot(node, 1+i/8, i%8)
		l = append(l, x)
	}
	return l
}

// dotsOf are the dots of these items, as they stand.
func dotsOf(l []api.Item) []api.Dot {
	var r []api.Dot
	for _, x := range l {
		r = append(r, x.Dot)
	}
	return r
}

func TestP12_1FormedKnown(t *testing.T) {
	name, long := strings.Repeat("k", 16), strings.Repeat("k", 17)
	elem, longer := strings.Repeat("\xff", 32), strings.Repeat("\xff", 33)
	right := append(oneOfEach(),
		add(""), del(""), put(""), add(elem), del(elem), put(elem), add("\x00 A\n"), put("é"), inc(0), inc(-1), inc(top), inc(bottom))
	for _, q := range oneOfEach() {
		right = append(right, at(name, "f", q), at("/", "f", q), at("k", "", q), at("k", name, q), at("0/z", "/", q))
	}
	for _, q := range right {
		checkFormed(t, q, true)
	}
	wrong := reqs(api.Req{}, add(longer), del(longer), put(longer))
	for _, q := range oneOfEach() {
		wrong = append(wrong, at("", "f", q), at(long, "f", q), at("K", "f", q), at("k ", "f", q), at("k", "F", q), at("k", long, q), at("k", "f\x00", q))
		for _, op := range []int{0, 6, -1, -5, 7, 1<<32 + 1, -1<<32 + 1, math.MinInt, math.MaxInt} {
			none := q
			none.Op = op
			wrong = append(wrong, none)
			none.Elem, none.N = "", 0
			wrong = append(wrong, none)
		}
		for _, n := range []int64{1, -1, 1 << 32, top, bottom} {
			if q.Op != api.Inc {
				q.N = n
				wrong = append(wrong, q)
			}
		}
	}
	for _, e := range []string{"x", "\x00", " ", elem, longer} {
		for _, q := range reqs(inc(3), inc(0), drop()) {
			q.Elem = e
			wrong = append(wrong, q)
		}
	}
	for _, q := range wrong {
		checkFormed(t, q, false)
	}
}

func TestP12_1FormedOfEachPart(t *testing.T) {
	for _, op := range ints() {
		for _, elem := range texts() {
			for _, n := range append(edges(), 1<<32+4, -1<<32) {
				for _, name := range texts() {
					q := api.Req{Op: op, Key: "k", Field: name, Elem: elem, N: n}
					checkFormed(t, q, isFormed(q))
					q.Key, q.Field = name, ""
					checkFormed(t, q, isFormed(q))
				}
			}
		}
	}
}

func TestP12_1FormedByEachByte(t *testing.T) {
	for b := range 256 {
		s := string([]byte{byte(b)})
		for _, q := range oneOfEach() {
			for _, name := range []string{s, "a" + s, s + "a", "aa" + s + "aa"} {
				checkFormed(t, at(name, "f", q), keyForm.MatchString(name))
				checkFormed(t, at("k", name, q), fieldForm.MatchString(name))
			}
			q.Elem = s
			checkFormed(t, q, q.Op != api.Inc && q.Op != api.Drop)
		}
	}
}

func TestP12_1FormedByLength(t *testing.T) {
	for n := range 70 {
		s := strings.Repeat("a", n)
		for _, q := range oneOfEach() {
			checkFormed(t, at(s, "f", q), n >= 1 && n <= 16)
			checkFormed(t, at("k", s, q), n <= 16)
			text := q.Op != api.Inc && q.Op != api.Drop
			q.Elem = s
			checkFormed(t, q, n == 0 || text && n <= 32)
		}
	}
}

func TestP12_1MakeKnown(t *testing.T) {
	// The chapter's example.
	check(t, nil, 1, 1, reqs(add("x"), add("x")), makes(0, api.Elem, "x", 0), makes(1, api.Elem, "x", 0, dot(1, 1, 0)))
	// Each Op, of nothing and of something.
	check(t, nil, 2, 3, reqs(add("x")), makes(0, api.Elem, "x", 0))
	check(t, nil, 2, 3, reqs(put("x")), makes(0, api.Reg, "x", 0))
	check(t, nil, 2, 3, reqs(inc(5)), makes(0, api.Count, "", 5))
	check(t, nil, 2, 3, reqs(inc(0)), makes(0, api.Count, "", 0))
	check(t, nil, 2, 3, reqs(del("x")))
	check(t, nil, 2, 3, reqs(drop()))
	l := list(elem("x", dot(0, 1, 0)), elem("y", dot(0, 1, 1)), reg("x", dot(0, 1, 2)), count(4, dot(0, 1, 3)), count(6, dot(2, 1, 0)))
	check(t, l, 2, 3, reqs(add("x")), makes(0, api.Elem, "x", 0, dot(0, 1, 0)))
	check(t, l, 2, 3, reqs(del("x")), makes(0, 0, "", 0, dot(0, 1, 0)))
	check(t, l, 2, 3, reqs(put("z")), makes(0, api.Reg, "z", 0, dot(0, 1, 2)))
	check(t, l, 2, 3, reqs(inc(5)), makes(0, api.Count, "", 11, dot(2, 1, 0)))
	check(t, l, 2, 3, reqs(drop()), makes(0, 0, "", 0, dotsOf(l)...))
	// Key and Field are the request's.
	e := makes(0, api.Elem, "x", 0)
	e.Key, e.Field = "a/b", ""
	check(t, l, 2, 3, reqs(at("a/b", "", add("x"))), e)
}

func TestP12_1MakeOfNoRequests(t *testing.T) {
	for _, items := range [][]api.Item{nil, {}, {{}}, many(70, 1, elem("x", dot(0, 1, 0)))} {
		check(t, items, 1, 1, nil)
		check(t, items, 1, 1, reqs())
		checkErr(t, items, 8, 1, nil, api.ErrArg)
		checkErr(t, items, 1, 0, reqs(), api.ErrArg)
	}
}

func TestP12_1ErrArg(t *testing.T) {
	for _, node := range ints() {
		for _, seq := range ints() {
			if node >= 0 && node <= 7 && seq >= 1 && seq <= 1<<30 {
				check(t, nil, node, seq, reqs(add("x"), add("x")), makes(0, api.Elem, "x", 0), makes(1, api.Elem, "x", 0, dot(node, seq, 0)))
			} else {
				checkErr(t, nil, node, seq, reqs(add("x")), api.ErrArg)
				checkErr(t, nil, node, seq, nil, api.ErrArg)
			}
		}
	}
	for node := -20; node <= 20; node++ {
		want := api.OK
		if node < 0 || node > 7 {
			want = api.ErrArg
		}
		if got := checkWords(t, nil, node, 1, reqs(inc(1))); got != want {
			t.Fatalf("node %d: %d", node, got)
		}
	}
}

func TestP12_1ErrLongOfRequests(t *testing.T) {
	for _, q := range oneOfEach() {
		for n := range 20 {
			l := slices.Repeat(reqs(q), n)
			if n <= 8 {
				if err := checkWords(t, nil, 1, 1, l); err != api.OK {
					t.Fatalf("%d requests: %d", n, err)
				}
			} else {
				checkErr(t, nil, 1, 1, l, api.ErrLong)
			}
		}
	}
	// Also of such that would come to nothing.
	checkErr(t, nil, 1, 1, slices.Repeat(reqs(del("x")), 1<<16), api.ErrLong)
	// Eight effects have the At from 0 to 7.
	got, err := Make(nil, 1, 1, slices.Repeat(reqs(put("x")), 8))
	if err != api.OK || len(got) != 8 || got[0].At != 0 || got[7].At != 7 {
		t.Fatalf("%v, %d", got, err)
	}
}

func TestP12_1ErrForm(t *testing.T) {
	wrong := reqs(api.Req{}, at("", "f", add("x")), at("K", "f", del("x")), at("k", "F", put("x")), add(strings.Repeat("x", 33)),
		api.Req{Op: 6, Key: "k"}, api.Req{Op: -1, Key: "k"}, api.Req{Op: api.Inc, Key: "k", Elem: "x"}, api.Req{Op: api.Drop, Key: "k", Elem: "x"}, api.Req{Op: api.Drop, Key: "k", N: 1}, api.Req{Op: api.Del, Key: "k", N: 1})
	for _, q := range wrong {
		for n := 1; n <= 8; n++ {
			for place := range n {
				l := slices.Repeat(reqs(add("x")), n)
				l[place] = q
				checkErr(t, nil, 1, 1, l, api.ErrForm)
				checkErr(t, many(5, 0, elem("x", dot(0, 1, 0))), 1, 1, l, api.ErrForm)
			}
		}
	}
}

func TestP12_1ErrorsInTheirOrder(t *testing.T) {
	none := api.Req{}
	// What holds 65 of each kind, and a count that runs over.
	full := slices.Concat(many(65, 0, elem("x", dot(0, 1, 0))), many(65, 2, reg("x", dot(0, 1, 0))), many(65, 1, count(0, dot(0, 1, 0))), many(1, 3, under("k", "over", count(top, dot(0, 1, 0)))))
	over := at("k", "over", inc(1))
	nine := slices.Repeat(reqs(add("y")), 9)
	// ErrArg ahead of all others.
	for _, arg := range [][2]int{{-1, 1}, {8, 1}, {1, 0}, {1, 1<<30 + 1}, {8, 0}} {
		for _, l := range [][]api.Req{nine, slices.Repeat(reqs(none), 9), reqs(none), reqs(add("x")), reqs(over), reqs(add("x"), over, none)} {
			checkErr(t, full, arg[0], arg[1], l, api.ErrArg)
		}
	}
	// ErrLong of nine ahead of what is not formed, and of what runs over.
	checkErr(t, full, 1, 99, slices.Repeat(reqs(none), 9), api.ErrLong)
	checkErr(t, full, 1, 99, append(reqs(none), nine[1:]...), api.ErrLong)
	checkErr(t, full, 1, 99, append(nine[:8:8], none), api.ErrLong)
	checkErr(t, full, 1, 99, append(reqs(over), nine[1:]...), api.ErrLong)
	// ErrForm of the last one ahead of what an earlier one would be.
	checkErr(t, full, 1, 99, reqs(over, none), api.ErrForm)
	checkErr(t, full, 1, 99, reqs(add("x"), none), api.ErrForm)
	checkErr(t, full, 1, 99, reqs(none, over), api.ErrForm)
	// Of two requests that may not be, the one ahead tells.
	checkErr(t, full, 1, 99, reqs(over, add("x")), api.ErrOver)
	checkErr(t, full, 1, 99, reqs(add("x"), over), api.ErrLong)
	checkErr(t, full, 1, 99, reqs(add("y"), over, add("x")), api.ErrOver)
	checkErr(t, full, 1, 99, reqs(add("y"), add("x"), over), api.ErrLong)
	// Of one request that drops too many and whose N, or whose Total, is too great: ErrLong.
	l := many(65, 1, count(0, dot(0, 1, 0)))
	l[3].N = top
	checkErr(t, l, 1, 20, reqs(inc(1)), api.ErrLong)
	l = append(many(65, 1, count(0, dot(0, 1, 0))), count(top, dot(2, 1, 0)))
	checkErr(t, l, 1, 20, reqs(inc(1)), api.ErrLong)
	checkErr(t, l[1:], 1, 20, reqs(inc(1)), api.ErrOver)
}

func TestP12_1ErrLongOfDrops(t *testing.T) {
	kinds := []struct {
		x api.Item
		l []api.Req
	}{
		{elem("x", dot(0, 1, 0)), reqs(add("x"), del("x"), drop())},
		{reg("x", dot(0, 1, 0)), reqs(put("y"), drop())},
		{count(1, dot(0, 1, 0)), reqs(inc(1), drop())},
	}
	for _, kind := range kinds {
		for _, q := range kind.l {
			for _, n := range []int{1, 2, 63, 64, 65, 66, 200} {
				items := many(n, 1, kind.x)
				want, err := makeOf(items, 1, 99, reqs(q))
				if (err == api.OK) != (n <= 64) || err == api.OK && !slices.Equal(want[0].Drops, dotsOf(items)) {
					t.Fatalf("%d items, %s: %s, %d", n, short(q), short(want), err)
				}
				checkWords(t, items, 1, 99, reqs(q))
				// Among others that stay it is the same.
				items = slices.Concat(many(100, 2, elem("other", dot(0, 1, 0))), items)
				if q.Op != api.Drop {
					if got := checkWords(t, items, 1, 99, reqs(q)); got != err {
						t.Fatalf("%d items among others, %s: %d", n, short(q), got)
					}
				}
			}
			// What stands in another field is not dropped.
			items := append(many(64, 1, kind.x), many(9, 3, under("k", "g", kind.x))...)
			items = append(items, many(9, 4, under("j", "f", kind.x))...)
			if err := checkWords(t, items, 1, 99, reqs(q)); err != api.OK {
				t.Fatalf("%s: %d", short(q), err)
			}
		}
	}
	// Drop drops all kinds together.
	items := slices.Concat(many(30, 1, elem("x", dot(0, 1, 0))), many(30, 2, reg("x", dot(0, 1, 0))), many(4, 3, count(1, dot(0, 1, 0))))
	check(t, items, 1, 99, reqs(drop()), makes(0, 0, "", 0, dotsOf(items)...))
	checkErr(t, append(items, elem("y", dot(4, 1, 0))), 1, 99, reqs(drop()), api.ErrLong)
	// Of Elems all of one text, of counts those of the node.
	items = append(many(64, 1, elem("x", dot(0, 1, 0))), many(65, 2, elem("y", dot(0, 1, 0)))...)
	check(t, items, 1, 99, reqs(add("x")), makes(0, api.Elem, "x", 0, dotsOf(items[:64])...))
	checkErr(t, items, 1, 99, reqs(add("y")), api.ErrLong)
	items = append(many(64, 1, count(1, dot(0, 1, 0))), many(65, 2, count(1, dot(0, 1, 0)))...)
	check(t, items, 1, 99, reqs(inc(1)), makes(0, api.Count, "", 65, dotsOf(items[:64])...))
	checkErr(t, items, 2, 99, reqs(inc(1)), api.ErrLong)
	check(t, items, 3, 99, reqs(inc(1)), makes(0, api.Count, "", 1))
}

func TestP12_1ErrLongBehindOthers(t *testing.T) {
	// An earlier request of the transaction makes the 65th, or takes one of 65 away.
	x := many(64, 0, elem("x", dot(0, 1, 0)))
	y := reg("y", dot(3, 1, 0))
	check(t, x, 1, 1, reqs(add("x"), drop()), makes(0, api.Elem, "x", 0, dotsOf(x)...), makes(1, 0, "", 0, dot(1, 1, 0)))
	checkErr(t, x, 1, 1, reqs(put("y"), drop()), api.ErrLong)
	checkErr(t, x, 1, 1, reqs(inc(0), drop()), api.ErrLong)
	check(t, x[1:], 1, 1, reqs(put("y"), drop()), makes(0, api.Reg, "y", 0), makes(1, 0, "", 0, append(dotsOf(x[1:]), dot(1, 1, 0))...))
	all := append(slices.Clone(x), y)
	checkErr(t, all, 1, 1, reqs(drop()), api.ErrLong)
	check(t, all, 1, 1, reqs(del("x"), drop()), makes(0, 0, "", 0, dotsOf(x)...), makes(1, 0, "", 0, y.Dot))
	checkErr(t, all, 1, 1, reqs(del("y"), drop()), api.ErrLong)
	// No effects beside an error, though those ahead of it had some.
	checkErr(t, all, 1, 1, reqs(add("a"), at("j", "", put("b")), drop(), add("c")), api.ErrLong)
	checkErr(t, list(count(top, dot(0, 1, 0))), 1, 1, reqs(add("a"), inc(1)), api.ErrOver)
	checkErr(t, list(count(top, dot(0, 1, 0))), 1, 1, reqs(inc(-1), inc(1), inc(1)), api.ErrOver)
}

func TestP12_1DropsThatAreNone(t *testing.T) {
	// Del and Drop that drop none have no effect, and At goes on by the request's place.
	l := list(elem("x", dot(0, 1, 0)))
	check(t, l, 1, 1, reqs(del("y")))
	check(t, l, 1, 1, reqs(at("j", "f", drop()), at("k", "g", drop()), at("k", "", drop())))
	check(t, l, 1, 1, reqs(del("y"), add("z")), makes(1, api.Elem, "z", 0))
	check(t, l, 1, 1, reqs(del("y"), at("k", "g", drop()), put("z"), del("q"), inc(2), del("x")),
		makes(2, api.Reg, "z", 0), makes(4, api.Count, "", 2), makes(5, 0, "", 0, dot(0, 1, 0)))
	check(t, nil, 1, 1, append(slices.Repeat(reqs(drop()), 7), add("x")), makes(7, api.Elem, "x", 0))
	check(t, nil, 1, 1, append(reqs(add("x")), slices.Repeat(reqs(del("x")), 7)...), makes(0, api.Elem, "x", 0), makes(1, 0, "", 0, dot(1, 1, 0)))
	// Add, Put and Inc have one though they drop none.
	check(t, nil, 1, 1, reqs(add(""), put(""), inc(0)), makes(0, api.Elem, "", 0), makes(1, api.Reg, "", 0), makes(2, api.Count, "", 0))
	// What isn't the kind that Del drops stays, be it of the same Elem.
	check(t, list(reg("x", dot(0, 1, 0)), count(0, dot(0, 1, 1))), 1, 1, reqs(del("x"), del("")))
}

func TestP12_1AddAndDel(t *testing.T) {
	x, y := elem("x", dot(0, 1, 0)), elem("y", dot(0, 1, 1))
	// It is there under this kind, under another, under both, by several.
	check(t, list(x), 1, 1, reqs(add("x")), makes(0, api.Elem, "x", 0, x.Dot))
	check(t, list(reg("x", dot(0, 1, 0))), 1, 1, reqs(add("x")), makes(0, api.Elem, "x", 0))
	check(t, list(x, reg("x", dot(0, 1, 1)), elem("x", dot(2, 1, 0))), 1, 1, reqs(add("x")), makes(0, api.Elem, "x", 0, x.Dot, dot(2, 1, 0)))
	check(t, list(x, y), 1, 1, reqs(add("y")), makes(0, api.Elem, "y", 0, y.Dot))
	check(t, list(x, y), 1, 1, reqs(del("y")), makes(0, 0, "", 0, y.Dot))
	check(t, list(x, reg("x", dot(0, 1, 1)), elem("x", dot(2, 1, 0))), 1, 1, reqs(del("x")), makes(0, 0, "", 0, x.Dot, dot(2, 1, 0)))
	// Texts are held against each other by the letter.
	near := list(elem("", dot(0, 1, 0)), elem("X", dot(0, 1, 1)), elem("xx", dot(0, 1, 2)), elem("x\x00", dot(0, 1, 3)))
	check(t, near, 1, 1, reqs(add("x")), makes(0, api.Elem, "x", 0))
	check(t, near, 1, 1, reqs(del("x")))
	check(t, near, 1, 1, reqs(del("")), makes(0, 0, "", 0, dot(0, 1, 0)))
	check(t, near, 1, 1, reqs(add("")), makes(0, api.Elem, "", 0, dot(0, 1, 0)))
	// What stands under a field or a key beside it is another one.
	var beside []api.Item
	for i, name := range [][2]string{{"k", ""}, {"k", "ff"}, {"k", "f/"}, {"j", "f"}, {"kk", "f"}, {"f", "k"}, {"kf", ""}} {
		beside = append(beside, under(name[0], name[1], elem("x", dot(3, 1, i))))
	}
	check(t, beside, 1, 1, reqs(add("x")), makes(0, api.Elem, "x", 0))
	check(t, beside, 1, 1, reqs(del("x"), drop()))
	check(t, append(beside, x), 1, 1, reqs(del("x")), makes(0, 0, "", 0, x.Dot))
}

func TestP12_1Put(t *testing.T) {
	var l []api.Item
	var drops []api.Dot
	for i := range 5 {
		for _, s := range []string{"x", "y", "", "new"} {
			check(t, l, 1, 1, reqs(put(s)), makes(0, api.Reg, s, 0, drops...))
			others := append(slices.Clone(l), elem(s, dot(4, 1, 0)), count(3, dot(4, 1, 1)), count(3, dot(1, 0, 0)), under("k", "g", reg(s, dot(4, 1, 2))), under("j", "f", reg(s, dot(4, 1, 3))))
			check(t, others, 1, 1, reqs(put(s)), makes(0, api.Reg, s, 0, drops...))
		}
		x := reg([]string{"x", "y"}[i%2], dot(2, 1, i))
		l, drops = append(l, x), append(drops, x.Dot)
	}
}

func TestP12_1Inc(t *testing.T) {
	// Counts of the node alone, of other nodes, of both.
	own, other := count(4, dot(1, 1, 0)), count(100, dot(2, 1, 0))
	check(t, list(own), 1, 9, reqs(inc(5)), makes(0, api.Count, "", 9, own.Dot))
	check(t, list(other), 1, 9, reqs(inc(5)), makes(0, api.Count, "", 5))
	check(t, list(own, other), 1, 9, reqs(inc(5)), makes(0, api.Count, "", 9, own.Dot))
	check(t, list(own, other), 2, 9, reqs(inc(5)), makes(0, api.Count, "", 105, other.Dot))
	check(t, list(own, other), 3, 9, reqs(inc(5)), makes(0, api.Count, "", 5))
	check(t, list(own, count(-6, dot(1, 2, 7)), other, count(20, dot(1, 2, 3))), 1, 9, reqs(inc(-5)), makes(0, api.Count, "", 13, own.Dot, dot(1, 2, 3), dot(1, 2, 7)))
	check(t, list(own), 1, 9, reqs(inc(-4)), makes(0, api.Count, "", 0, own.Dot))
	check(t, list(own), 1, 9, reqs(inc(0)), makes(0, api.Count, "", 4, own.Dot))
	// Items of other kinds stay, be they by a dot of the node.
	check(t, list(elem("", dot(1, 1, 1)), reg("", dot(1, 1, 2)), own), 1, 9, reqs(inc(5)), makes(0, api.Count, "", 9, own.Dot))
	check(t, list(under("k", "g", own), under("j", "f", own)), 1, 9, reqs(inc(5)), makes(0, api.Count, "", 5))
	// Each node's, for each node.
	var all []api.Item
	for node := range 8 {
		all = append(all, count(int64(1)<<node, dot(node, 1, 0)), count(int64(1)<<(node+8), dot(node, 2, 0)))
	}
	for node := range 8 {
		check(t, all, node, 9, reqs(inc(1<<20)), makes(0, api.Count, "", 1<<20+1<<node+1<<(node+8), dot(node, 1, 0), dot(node, 2, 0)))
	}
}

func TestP12_1IncAtItsEdges(t *testing.T) {
	for _, sign := range []int64{1, -1} {
		// The greatest, or the least, of this sign.
		end := int64(top)
		if sign < 0 {
			end = bottom
		}
		// Its own N is just that, one less, one more.
		own := count(end-sign*7, dot(1, 1, 0))
		check(t, list(own), 1, 9, reqs(inc(sign*6)), makes(0, api.Count, "", end-sign, own.Dot))
		check(t, list(own), 1, 9, reqs(inc(sign*7)), makes(0, api.Count, "", end, own.Dot))
		checkErr(t, list(own), 1, 9, reqs(inc(sign*8)), api.ErrOver)
		checkErr(t, list(own), 1, 9, reqs(inc(end)), api.ErrOver)
		check(t, nil, 1, 9, reqs(inc(end)), makes(0, api.Count, "", end))
		// Also where the field's Total would do.
		other := count(-sign*50, dot(2, 1, 0))
		checkErr(t, list(own, other), 1, 9, reqs(inc(sign*8)), api.ErrOver)
		// What sums of some of them are tells nothing.
		two := count(sign*7, dot(1, 2, 0))
		check(t, list(own, two), 1, 9, reqs(inc(0)), makes(0, api.Count, "", end, own.Dot, two.Dot))
		more := count(sign*30, dot(1, 2, 0))
		check(t, list(own, more), 1, 9, reqs(inc(-sign*23)), makes(0, api.Count, "", end, own.Dot, more.Dot))
		checkErr(t, list(own, more), 1, 9, reqs(inc(-sign*22)), api.ErrOver)
		check(t, list(more, own, count(-sign*60, dot(1, 3, 0))), 1, 9, reqs(inc(sign*30)), makes(0, api.Count, "", end-sign*7, own.Dot, more.Dot, dot(1, 3, 0)))
		// Its own N fits, its field's Total is just that, one less, one more.
		other = count(end-sign*7, dot(2, 1, 0))
		check(t, list(other), 1, 9, reqs(inc(sign*6)), makes(0, api.Count, "", sign*6))
		check(t, list(other), 1, 9, reqs(inc(sign*7)), makes(0, api.Count, "", sign*7))
		checkErr(t, list(other), 1, 9, reqs(inc(sign*8)), api.ErrOver)
		check(t, list(other, count(sign*3, dot(1, 1, 0))), 1, 9, reqs(inc(sign*4)), makes(0, api.Count, "", sign*7, dot(1, 1, 0)))
		checkErr(t, list(other, count(sign*3, dot(1, 1, 0))), 1, 9, reqs(inc(sign*5)), api.ErrOver)
		check(t, list(other, count(-sign, dot(3, 1, 0)), count(sign, dot(4, 1, 0))), 1, 9, reqs(inc(sign*7)), makes(0, api.Count, "", sign*7))
		// One beside it, of another field, tells nothing.
		check(t, list(under("k", "", other), under("j", "f", other), other), 1, 9, reqs(inc(sign*7)), makes(0, api.Count, "", sign*7))
		check(t, list(under("k", "", count(end, dot(1, 1, 0)))), 1, 9, reqs(inc(end)), makes(0, api.Count, "", end))
		// A field that is too great ahead of it and isn't behind it, or still is.
		over := list(count(end, dot(2, 1, 0)), count(sign*5, dot(3, 1, 0)))
		check(t, over, 1, 9, reqs(inc(-sign*5)), makes(0, api.Count, "", -sign*5))
		checkErr(t, over, 1, 9, reqs(inc(-sign*4)), api.ErrOver)
		checkErr(t, over, 1, 9, reqs(inc(0)), api.ErrOver)
		check(t, over, 2, 9, reqs(inc(-sign*5)), makes(0, api.Count, "", end-sign*5, dot(2, 1, 0)))
		ownOver := list(count(end, dot(1, 1, 0)), count(sign*5, dot(1, 2, 0)))
		check(t, ownOver, 1, 9, reqs(inc(-sign*5)), makes(0, api.Count, "", end, dot(1, 1, 0), dot(1, 2, 0)))
		checkErr(t, ownOver, 1, 9, reqs(inc(-sign*4)), api.ErrOver)
		// Other requests ask nothing of the Total.
		check(t, over, 1, 9, reqs(add("x"), put("y"), del("x")), makes(0, api.Elem, "x", 0), makes(1, api.Reg, "y", 0), makes(2, 0, "", 0, dot(1, 9, 0)))
		check(t, over, 1, 9, reqs(drop()), makes(0, 0, "", 0, dotsOf(over)...))
		check(t, over, 1, 9, reqs(at("k", "g", inc(1))), func() api.Eff { e := makes(0, api.Count, "", 1); e.Field = "g"; return e }())
		// An earlier request mends it, or brings it about; a later one comes too late.
		check(t, over, 1, 9, reqs(drop(), inc(end)), makes(0, 0, "", 0, dotsOf(over)...), makes(1, api.Count, "", end))
		check(t, over, 1, 9, reqs(inc(-sign*5), inc(0)), makes(0, api.Count, "", -sign*5), makes(1, api.Count, "", -sign*5, dot(1, 9, 0)))
		checkErr(t, over, 1, 9, reqs(inc(-sign*5), inc(sign)), api.ErrOver)
		checkErr(t, over, 1, 9, reqs(inc(-sign*4), inc(-sign*4)), api.ErrOver)
		checkErr(t, over, 1, 9, reqs(inc(-sign*4), drop()), api.ErrOver)
		checkErr(t, nil, 1, 9, reqs(inc(end), inc(sign), inc(-sign)), api.ErrOver)
	}
	for _, a := range edges() {
		for _, b := range edges() {
			for _, n := range edges() {
				for _, node := range []int{1, 2} {
					checkWords(t, list(count(a, dot(1, 1, 0)), count(b, dot(node, 2, 0))), 1, 9, reqs(inc(n)))
				}
			}
		}
	}
}

func TestP12_1DropOfAllKinds(t *testing.T) {
	l := list(elem("x", dot(3, 1, 0)), elem("y", dot(0, 2, 1)), reg("x", dot(0, 2, 0)), reg("", dot(7, 1<<30, 7)), count(0, dot(1, 1, 0)), count(top, dot(0, 1, 5)), count(-top, dot(2, 1, 0)))
	rising := []api.Dot{dot(0, 1, 5), dot(0, 2, 0), dot(0, 2, 1), dot(1, 1, 0), dot(2, 1, 0), dot(3, 1, 0), dot(7, 1<<30, 7)}
	for seed := range uint32(50) {
		check(t, shuffle(l, chance(seed)), 1, 9, reqs(drop()), makes(0, 0, "", 0, rising...))
	}
	beside := append(slices.Clone(l), under("k", "", elem("x", dot(4, 1, 0))), under("j", "f", elem("x", dot(4, 2, 0))))
	check(t, beside, 1, 9, reqs(drop(), drop(), add("x")), makes(0, 0, "", 0, rising...), makes(2, api.Elem, "x", 0))
	check(t, l, 1, 9, reqs(add("x"), put("y"), inc(0), drop()), makes(0, api.Elem, "x", 0, dot(3, 1, 0)), makes(1, api.Reg, "y", 0, dot(0, 2, 0), dot(7, 1<<30, 7)), makes(2, api.Count, "", 0, dot(1, 1, 0)),
		makes(3, 0, "", 0, dot(0, 1, 5), dot(0, 2, 1), dot(1, 9, 0), dot(1, 9, 1), dot(1, 9, 2), dot(2, 1, 0)))
}

func TestP12_1DropsRise(t *testing.T) {
	// By the node first, the number next, the effect's number last, from items that stand otherwise.
	var dots []api.Dot
	for _, node := range []int{0, 1, 2, 7} {
		for _, seq := range []int{1, 2, 9, 1 << 30} {
			for _, at := range []int{0, 1, 2, 7} {
				dots = append(dots, dot(node, seq, at))
			}
		}
	}
	for seed := range uint32(100) {
		next := chance(seed)
		var elems, regs, all []api.Item
		for _, d := range shuffle(dots, next) {
			elems = append(elems, elem("x", d))
			regs = append(regs, reg(strings.Repeat("z", next(30)), d))
			all = append(all, []api.Item{elem(strings.Repeat("y", next(30)), d), reg(strings.Repeat("z", next(30)), d), count(int64(next(9)), d)}[next(3)])
		}
		check(t, elems, 3, 1, reqs(add("x")), makes(0, api.Elem, "x", 0, dots...))
		check(t, elems, 3, 1, reqs(del("x")), makes(0, 0, "", 0, dots...))
		check(t, regs, 3, 1, reqs(put("x")), makes(0, api.Reg, "x", 0, dots...))
		check(t, all, 3, 1, reqs(drop()), makes(0, 0, "", 0, dots...))
		var counts []api.Item
		for _, d := range shuffle(dots, next) {
			counts = append(counts, count(1, d))
		}
		check(t, counts, 2, 100, reqs(inc(1)), makes(0, api.Count, "", 17, dots[32:48]...))
	}
}

func TestP12_1SameFieldBehindEachOther(t *testing.T) {
	own := func(at int) api.Dot { return dot(1, 5, at) }
	check(t, nil, 1, 5, reqs(add("x"), del("x"), add("x"), add("y"), drop(), add("y")),
		makes(0, api.Elem, "x", 0), makes(1, 0, "", 0, own(0)), makes(2, api.Elem, "x", 0), makes(3, api.Elem, "y", 0), makes(4, 0, "", 0, own(2), own(3)), makes(5, api.Elem, "y", 0))
	check(t, nil, 1, 5, reqs(put("x"), put("y"), put("x")), makes(0, api.Reg, "x", 0), makes(1, api.Reg, "y", 0, own(0)), makes(2, api.Reg, "x", 0, own(1)))
	check(t, nil, 1, 5, reqs(inc(1), inc(2), inc(-4)), makes(0, api.Count, "", 1), makes(1, api.Count, "", 3, own(0)), makes(2, api.Count, "", -1, own(1)))
	check(t, nil, 1, 5, reqs(add("x"), put("x"), inc(1), del("x"), put("y"), inc(1), drop()),
		makes(0, api.Elem, "x", 0), makes(1, api.Reg, "x", 0), makes(2, api.Count, "", 1), makes(3, 0, "", 0, own(0)), makes(4, api.Reg, "y", 0, own(1)), makes(5, api.Count, "", 2, own(2)), makes(6, 0, "", 0, own(4), own(5)))
	check(t, list(count(7, dot(1, 4, 0)), count(9, dot(0, 4, 0))), 1, 5, reqs(inc(1), inc(1), drop(), inc(1)),
		makes(0, api.Count, "", 8, dot(1, 4, 0)), makes(1, api.Count, "", 9, own(0)), makes(2, 0, "", 0, dot(0, 4, 0), own(1)), makes(3, api.Count, "", 1))
	// What was dropped once isn't dropped again.
	check(t, list(elem("x", dot(0, 1, 0))), 1, 5, reqs(add("x"), add("x"), del("x"), del("x")), makes(0, api.Elem, "x", 0, dot(0, 1, 0)), makes(1, api.Elem, "x", 0, own(0)), makes(2, 0, "", 0, own(1)))
}

// fewItems are items in their one form, ahead of the transaction 5 of node 1.
func fewItems() []api.Item {
	return item.Norm(list(elem("x", dot(0, 1, 0)), elem("x", dot(2, 9, 0)), elem("y", dot(1, 4, 1)), reg("x", dot(1, 4, 2)), reg("y", dot(2, 1, 0)), count(3, dot(1, 3, 0)), count(top, dot(0, 1, 1)), under("k", "", elem("x", dot(1, 4, 3)))))
}

func TestP12_1AllShortRows(t *testing.T) {
	requests := reqs(add("x"), add("y"), del("x"), put("x"), inc(1), inc(-9), drop(), at("k", "", drop()), at("j", "f", put("")))
	var subsets [][]api.Item
	all := fewItems()
	for mask := range 1 << len(all) {
		var l []api.Item
		for i, x := range all {
			if mask>>i&1 != 0 {
				l = append(l, x)
			}
		}
		subsets = append(subsets, l)
	}
	for _, l := range rows(2, requests...) {
		for _, items := range subsets {
			checkWords(t, items, 1, 5, l)
			checkLaws(t, items, 1, 5, l)
		}
	}
	for i, l := range rows(4, requests...) {
		items := subsets[i*7%len(subsets)]
		checkWords(t, items, 1, 5, l)
		checkLaws(t, items, 1, 5, l)
	}
}

// someTexts are what oddItems and oddReqs say of keys, fields and Elems.
func someTexts() []string { return []string{"a", "", "b", "A"} }

// oddItems are n items of few values of each part, formed or not, in no order, two of one Dot among them.
func oddItems(n int, next func(int) int) []api.Item {
	s, numbers := someTexts(), edges()
	l := make([]api.Item, n)
	for i := range l {
		l[i] = api.Item{Key: s[next(3)], Field: s[next(2)], Kind: next(5), Elem: s[next(3)], Dot: dot(next(4)-1, next(4), next(3))}
		if next(2) == 0 {
			l[i].N = numbers[next(len(numbers))]
		}
	}
	return l
}

// oddReqs are n requests to what oddItems says, most of them formed.
func oddReqs(n int, next func(int) int) []api.Req {
	s, numbers := someTexts(), edges()
	l := make([]api.Req, n)
	for i := range l {
		l[i] = api.Req{Op: 1 + next(5), Key: s[next(2)*2], Field: s[next(2)]}
		switch l[i].Op {
		case api.Add, api.Del, api.Put:
			l[i].Elem = s[next(3)]
		case api.Inc:
			l[i].N = numbers[next(len(numbers))]
			if next(4) > 0 {
				l[i].N = int64(next(9)) - 4
			}
		}
		if next(50) == 0 {
			l[i].Key = s[next(4)]
		}
	}
	return l
}

func TestP12_1OddItems(t *testing.T) {
	var were [8]int
	for seed := range uint32(20000) {
		next := chance(seed)
		items := oddItems(next(12), next)
		err := checkWords(t, items, next(3), 1+next(3), oddReqs(next(10), next))
		were[err]++
	}
	for _, err := range []api.Errno{api.OK, api.ErrForm, api.ErrLong, api.ErrOver} {
		if were[err] < 100 {
			t.Fatalf("errors: %v", were)
		}
	}
	// Many items of few fields: some requests drop too many.
	were = [8]int{}
	for seed := range uint32(1000) {
		next := chance(seed)
		items := oddItems(400, next)
		for i := range items {
			items[i].Dot, items[i].N = dot(next(8), 1+next(9), next(8)), 0
		}
		were[checkWords(t, items, next(8), 10, oddReqs(3, next))]++
	}
	if were[api.OK] < 10 || were[api.ErrLong] < 10 {
		t.Fatalf("errors: %v", were)
	}
}

func TestP12_1ItemsByTheLetter(t *testing.T) {
	// In no order, by one Dot, and such as aren't formed.
	one := dot(0, 1, 0)
	check(t, list(elem("x", one), elem("x", one)), 1, 1, reqs(add("x")), makes(0, api.Elem, "x", 0, one))
	check(t, list(elem("x", one), reg("x", one), count(1, one)), 1, 1, reqs(drop()), makes(0, 0, "", 0, one))
	check(t, list(count(3, dot(1, 1, 0)), count(4, dot(1, 1, 0))), 1, 9, reqs(inc(1)), makes(0, api.Count, "", 8, dot(1, 1, 0)))
	check(t, slices.Repeat(list(elem("x", one)), 100), 1, 1, reqs(del("x")), makes(0, 0, "", 0, one))
	// Behind a request that has an effect, they stand in their one form: of two by one Dot there is one.
	check(t, list(count(4, dot(1, 1, 0)), count(3, dot(1, 1, 0))), 1, 9, reqs(add("x"), inc(1)), makes(0, api.Elem, "x", 0), makes(1, api.Count, "", 4, dot(1, 1, 0)))
	check(t, list(count(4, dot(1, 1, 0)), count(3, dot(1, 1, 0))), 1, 9, reqs(del("x"), inc(1)), makes(1, api.Count, "", 8, dot(1, 1, 0)))
	check(t, list(under("a", "", elem("x", one)), elem("x", one)), 1, 1, reqs(put("y"), del("x")), makes(0, api.Reg, "y", 0))
	// What is taken away is by its Dot, in other fields too.
	a := at("a", "", del("x"))
	check(t, list(under("a", "", elem("x", one)), elem("x", one)), 1, 1, reqs(del("x"), a), makes(0, 0, "", 0, one))
	// A kind that is none goes by Drop alone.
	none := api.Item{Key: "k", Field: "f", Kind: 9, Elem: "x", N: 7, Dot: dot(1, 1, 0)}
	check(t, list(none), 1, 9, reqs(add("x"), put("x"), inc(1), del("y")), makes(0, api.Elem, "x", 0), makes(1, api.Reg, "x", 0), makes(2, api.Count, "", 1))
	check(t, list(none), 1, 9, reqs(drop()), makes(0, 0, "", 0, dot(1, 1, 0)))
	// Dots that none may have, and those of the transaction itself, are dropped like others.
	odd := list(elem("x", dot(9, -1, 99)), elem("x", dot(-1, 1<<40, -1)), elem("x", dot(1, 9, 0)), elem("x", dot(1, 9, 5)), elem("x", api.Dot{}))
	check(t, odd, 1, 9, reqs(add("x")), makes(0, api.Elem, "x", 0, dot(-1, 1<<40, -1), dot(0, 0, 0), dot(1, 9, 0), dot(1, 9, 5), dot(9, -1, 99)))
	// An Elem or an N that may not be tells nothing of who goes, or tells it by the letter.
	check(t, list(api.Item{Key: "k", Field: "f", Kind: api.Count, Elem: "q", N: 6, Dot: dot(1, 1, 0)}), 1, 9, reqs(inc(1)), makes(0, api.Count, "", 7, dot(1, 1, 0)))
	check(t, list(api.Item{Key: "k", Field: "f", Kind: api.Elem, Elem: "x", N: top, Dot: dot(1, 1, 0)}), 1, 9, reqs(inc(1), add("x")), makes(0, api.Count, "", 1), makes(1, api.Elem, "x", 0, dot(1, 1, 0)))
}

func TestP12_1NothingIsChangedOrShared(t *testing.T) {
	for seed := range uint32(2000) {
		next := chance(seed)
		list, requests := oddItems(next(30), next), oddReqs(next(9), next)
		for i := range list {
			list[i].N %= 1000
		}
		wholeItems, items := spare(list, oddItems(12, next)...)
		wholeReqs, l := spare(requests, oddReqs(9, next)...)
		itemsBefore, reqsBefore := slices.Clone(wholeItems), slices.Clone(wholeReqs)
		node := next(3)
		got, err := Make(items, node, 3, l)
		again, errAgain := Make(list, node, 3, requests)
		want, errWant := makeOf(list, node, 3, requests)
		if err != errWant || errAgain != errWant || !slices.EqualFunc(got, want, sameEff) || !slices.EqualFunc(again, want, sameEff) {
			t.Fatalf("Make(%s, %d, 3, %s) = %s, %d, once more %s, %d", short(list), node, short(requests), short(got), err, short(again), errAgain)
		}
		// No two lists of an answer share any room, nor do two answers.
		for i := range got {
			drops := got[i].Drops[:cap(got[i].Drops)]
			for j := range drops {
				drops[j] = dot(-7, -7, -7)
			}
			got[i].Drops = nil
			for j := i + 1; j < len(got); j++ {
				if !sameEff(got[j], want[j]) {
					t.Fatalf("two lists of an answer share: %s; it was %s", short(got[j]), short(want[j]))
				}
			}
		}
		for i := range got[:cap(got)] {
			got[:cap(got)][i] = makes(-7, -7, "turned", -7)
		}
		if !slices.EqualFunc(again, want, sameEff) {
			t.Fatalf("two answers share: %s; it was %s", short(again), short(want))
		}
		if !slices.Equal(wholeItems, itemsBefore) || !slices.Equal(wholeReqs, reqsBefore) {
			t.Fatalf("what was handed in, or its spare room, was changed, or is shared: %s, %s", short(wholeItems), short(wholeReqs))
		}
	}
}

func TestP12_1SameEachTime(t *testing.T) {
	for seed := range uint32(20) {
		next := chance(seed)
		items := item.Norm(oddItems(200, next))
		l := oddReqs(4, next)
		want, err := Make(items, 2, 3, l)
		for range 20 {
			if err != api.OK {
				checkErr(t, items, 2, 3, l, err)
			} else {
				check(t, items, 2, 3, l, want...)
			}
		}
	}
}

func TestP12_1LongLists(t *testing.T) {
	const n = 1 << 17
	var items []api.Item
	for i := n; i > 0; i-- {
		items = append(items, under("j", "f", elem(fmt.Sprint(i), dot(i%8, i, 0))), under("k", fmt.Sprint(i), count(1, dot(i%8, i, 1))))
	}
	items = append(items, reg("x", dot(5, n+1, 0)))
	e := makes(0, 0, "", 0, dot(7, 7, 0))
	e.Key = "j"
	check(t, items, 1, 1<<20, reqs(at("j", "f", del("7")), put("z")), e, makes(1, api.Reg, "z", 0, dot(5, n+1, 0)))
	checkErr(t, items, 1, 1<<20, reqs(at("j", "f", drop())), api.ErrLong)
	e.Key, e.Field, e.Kind, e.N, e.Drops = "k", "9", api.Count, 4, []api.Dot{dot(1, 9, 1)}
	check(t, items, 1, 1<<20, reqs(at("k", "9", inc(3))), e)
}

// plainItems are items in their one form that are formed, of few fields, none by a dot of the transaction seq of node or of a later one.
func plainItems(n, node, seq int, next func(int) int) []api.Item {
	numbers := edges()
	var l []api.Item
	for range n {
		x := api.Item{Key: []string{"a", "b"}[next(2)], Field: []string{"", "a"}[next(2)], Kind: 1 + next(3), Dot: dot(next(4), 1+next(2*seq), next(8))}
		if x.Dot.Node == node && x.Dot.Seq >= seq {
			continue
		}
		if x.Kind != api.Count {
			x.Elem = []string{"a", "", "b"}[next(3)]
		} else if x.N = int64(next(20) - 10); next(4) == 0 {
			x.N = numbers[next(len(numbers))]
		}
		l = append(l, x)
	}
	return item.Norm(l)
}

// totalOf is the sum of a field's counts, without an end.
func totalOf(items []api.Item, q api.Req) *big.Int {
	sum := new(big.Int)
	for _, x := range items {
		if x.Key == q.Key && x.Field == q.Field && x.Kind == api.Count {
			sum.Add(sum, big.NewInt(x.N))
		}
	}
	return sum
}

// asked is what a field has to be behind a request, of what it is ahead of it; its Total aside.
func asked(q api.Req, v api.Val) (elems, regs []string) {
	elems, regs = slices.Clone(v.Elems), slices.Clone(v.Regs)
	switch q.Op {
	case api.Add:
		elems = append(elems, q.Elem)
		slices.Sort(elems)
		elems = slices.Compact(elems)
	case api.Del:
		elems = slices.DeleteFunc(elems, func(s string) bool { return s == q.Elem })
	case api.Put:
		regs = []string{q.Elem}
	case api.Drop:
		elems, regs = nil, nil
	}
	return elems, regs
}

// checkLaws holds what Make's effects do, request by request and all together, against what P12.2 promises. It tells whether Make had no error.
func checkLaws(t *testing.T, items []api.Item, node, seq int, l []api.Req) bool {
	t.Helper()
	made, err := Make(items, node, seq, l)
	if err != api.OK {
		return false
	}
	fail := func(what string) {
		t.Helper()
		t.Fatalf("%s: Make(%s, %d, %d, %s) = %s", what, short(items), node, seq, short(l), short(made))
	}
	if !eff.Right(node, seq, made) {
		fail("the effects aren't right")
	}
	before := items
	for i, q := range l {
		part, err := Make(items, node, seq, l[:i+1])
		if err != api.OK || len(part) > len(made) || !slices.EqualFunc(part, made[:len(part)], sameEff) {
			fail("a beginning of the requests has other effects")
		}
		left := eff.Do(items, node, seq, part)
		checkStep(t, before, left, q, fail)
		before = left
	}
	left := eff.Do(items, node, seq, made)
	if !slices.Equal(left, before) || !slices.Equal(left, item.Norm(left)) || slices.ContainsFunc(left, func(x api.Item) bool { return !item.Formed(x) }) {
		fail("what is left isn't formed, or isn't in its one form: " + short(left))
	}
	checkEnd(t, items, left, l, fail)
	return true
}

// checkStep holds the fields behind one request against those ahead of it.
func checkStep(t *testing.T, before, left []api.Item, q api.Req, fail func(string)) {
	t.Helper()
	had, has := view.Field(before, q.Key, q.Field), view.Field(left, q.Key, q.Field)
	elems, regs := asked(q, had)
	if !slices.Equal(elems, has.Elems) || !slices.Equal(regs, has.Regs) {
		fail(fmt.Sprintf("%s made of %s %s", short(q), short(had), short(has)))
	}
	total := totalOf(before, q)
	if q.Op == api.Drop {
		total.SetInt64(0)
	}
	total.Add(total, big.NewInt(q.N))
	if total.Cmp(totalOf(left, q)) != 0 || q.Op == api.Inc && (has.Over || has.Total != total.Int64()) || q.Op == api.Drop && !view.Empty(has) {
		fail(fmt.Sprintf("%s made of %s %s", short(q), short(had), short(has)))
	}
}

// checkEnd holds all fields behind all requests against what those asked for last, and against what they were.
func checkEnd(t *testing.T, items, left []api.Item, l []api.Req, fail func(string)) {
	t.Helper()
	last := map[[2]string]api.Req{}
	for _, q := range l {
		last[[2]string{q.Key, q.Field}] = q
	}
	for _, q := range last {
		v := view.Field(left, q.Key, q.Field)
		right := true
		switch q.Op {
		case api.Add:
			right = slices.Contains(v.Elems, q.Elem)
		case api.Del:
			right = !slices.Contains(v.Elems, q.Elem)
		case api.Put:
			right = slices.Equal(v.Regs, []string{q.Elem})
		case api.Inc:
			right = !v.Over
		case api.Drop:
			right = view.Empty(v)
		}
		if !right {
			fail(fmt.Sprintf("%s made %s", short(q), short(v)))
		}
	}
	isAsked := func(x api.Item) bool {
		_, there := last[[2]string{x.Key, x.Field}]
		return there
	}
	if !slices.Equal(slices.DeleteFunc(slices.Clone(items), isAsked), slices.DeleteFunc(slices.Clone(left), isAsked)) {
		fail("another field has changed: " + short(left))
	}
	for _, key := range append(item.Keys(items), "other") {
		for _, field := range append(view.Fields(items, key), "other") {
			if _, there := last[[2]string{key, field}]; !there && !view.Same(view.Field(items, key, field), view.Field(left, key, field)) {
				fail("another field has changed: " + short(left))
			}
		}
	}
}

func TestP12_2Known(t *testing.T) {
	items := fewItems()
	for _, q := range slices.Concat(oneOfEach(), reqs(add("new"), del("none"), put("new"), inc(-20), inc(0))) {
		if !checkLaws(t, items[1:], 1, 5, reqs(q)) && q.Op != api.Inc {
			t.Fatalf("%s has an error", short(q))
		}
		for _, other := range oneOfEach() {
			checkLaws(t, items, 1, 5, reqs(q, other, q))
			checkLaws(t, items, 1, 5, reqs(q, at("k", "", other), at("j", "", q)))
		}
	}
	// At the ends of what a transaction may be: its node, its number, its requests.
	for _, node := range []int{0, 7} {
		for _, seq := range []int{1, 1 << 30} {
			for _, q := range oneOfEach() {
				l := slices.Repeat(reqs(q), 8)
				var items []api.Item
				for at := range 8 {
					items = append(items, elem("x", dot(3, 1<<30, at)), reg("y", dot(4, 1, at)), count(1, dot(5, 9, at)), count(1, dot(6, 9, at)))
					if seq > 1 {
						items = append(items, elem("x", dot(node, seq-1, at)), count(1, dot(node, 9, at)))
					}
				}
				if !checkLaws(t, item.Norm(items), node, seq, l) {
					t.Fatalf("%s has an error", short(q))
				}
			}
		}
	}
}

func TestP12_2OfEach(t *testing.T) {
	fine := 0
	for seed := range uint32(6000) {
		next := chance(seed)
		node, seq := next(4), 1+next(4)
		items := plainItems(next(40), node, seq, next)
		l := oddReqs(next(9), next)
		if checkLaws(t, items, node, seq, l) {
			fine++
		}
	}
	if fine < 2000 {
		t.Fatalf("only %d of them had no error", fine)
	}
}

func TestP12_2OneBehindTheOther(t *testing.T) {
	// Transactions of one node behind each other: each finds what those ahead of it left, and its field is as asked.
	for seed := range uint32(300) {
		next := chance(seed)
		node := next(8)
		items := plainItems(10, node, 1, next)
		for seq := 1; seq <= 20; seq++ {
			l := oddReqs(1+next(8), next)
			checkWords(t, items, node, seq, l)
			if checkLaws(t, items, node, seq, l) {
				made, _ := Make(items, node, seq, l)
				items = eff.Do(items, node, seq, made)
			}
		}
	}
}
