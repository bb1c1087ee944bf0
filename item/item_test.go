package item

import (
	"encoding/binary"
	"fmt"
	"maps"
	"math"
	"regexp"
	"slices"
	"sort"
	"strings"
	"testing"

	"buttery/api"
)

// letters are all bytes that may stand in a key.
const letters = "/0123456789abcdefghijklmnopqrstuvwxyz"

// keyForm and fieldForm are how the document tells a key and a prefix.
var (
	keyForm   = regexp.MustCompile(`\A[a-z0-9/]{1,16}\z`)
	fieldForm = regexp.MustCompile(`\A[a-z0-9/]{0,16}\z`)
)

// texts, ints and numbers are values of the parts of items, the lesser ones first: such as may be, and such as may not.
func texts() []string {
	return []string{
		"", "\x00", "\x00\x00", "\x00a", " ", "/", "//", "/a", "0", "9", "A", "a", "a\x00", "a/", "a/b", "a0", "aa",
		strings.Repeat("a", 16), strings.Repeat("a", 17), strings.Repeat("a", 32), strings.Repeat("a", 33), "aab", "ab", "b", "ba", "z", "é", "\xff", "\xff\xff",
	}
}

func ints() []int {
	return []int{math.MinInt, -1 << 40, -8, -2, -1, 0, 1, 2, 3, 4, 7, 8, 9, 255, 256, 1<<30 - 1, 1 << 30, 1<<30 + 1, 1 << 40, math.MaxInt}
}

func numbers() []int64 {
	return []int64{math.MinInt64, math.MinInt64 + 1, -1 << 33, -256, -2, -1, 0, 1, 2, 255, 256, 1 << 33, math.MaxInt64 - 1, math.MaxInt64}
}

// parts are the parts of an item by which it stands in order, the first one first. Each tells how many values it tries, and sets x to the i-th.
func parts() []struct {
	name string
	n    int
	set  func(x *api.Item, i int)
} {
	type part = struct {
		name string
		n    int
		set  func(x *api.Item, i int)
	}
	s, n, m := texts(), ints(), numbers()
	return []part{
		{"Key", len(s), func(x *api.Item, i int) { x.Key = s[i] }},
		{"Field", len(s), func(x *api.Item, i int) { x.Field = s[i] }},
		{"Kind", len(n), func(x *api.Item, i int) { x.Kind = n[i] }},
		{"Node", len(n), func(x *api.Item, i int) { x.Dot.Node = n[i] }},
		{"Seq", len(n), func(x *api.Item, i int) { x.Dot.Seq = n[i] }},
		{"At", len(n), func(x *api.Item, i int) { x.Dot.At = n[i] }},
		{"Elem", len(s), func(x *api.Item, i int) { x.Elem = s[i] }},
		{"N", len(m), func(x *api.Item, i int) { x.N = m[i] }},
	}
}

// place is bytes that stand in the order in which the items do.
func place(x api.Item) string {
	var b []byte
	text := func(s string) {
		for i := range len(s) {
			b = append(b, s[i])
			if s[i] == 0 {
				b = append(b, 1)
			}
		}
		b = append(b, 0, 0)
	}
	number := func(n int64) { b = binary.BigEndian.AppendUint64(b, uint64(n)^1<<63) }
	text(x.Key)
	text(x.Field)
	for _, n := range []int{x.Kind, x.Dot.Node, x.Dot.Seq, x.Dot.At} {
		number(int64(n))
	}
	text(x.Elem)
	number(x.N)
	return string(b)
}

// isFormed is what the document says of an item that is formed.
func isFormed(x api.Item) bool {
	named := keyForm.MatchString(x.Key) && fieldForm.MatchString(x.Field)
	kind := x.Kind == 1 || x.Kind == 2 || x.Kind == 3
	elem := len(x.Elem) <= 32 && (x.Kind != 3 || len(x.Elem) == 0)
	n := x.Kind == 3 || x.N == 0
	d := x.Dot
	return named && kind && elem && n && 0 <= d.Node && d.Node <= 7 && 1 <= d.Seq && d.Seq <= 1073741824 && 0 <= d.At && d.At <= 7
}

// normOf is the items of which none with the same Dot stands ahead, each laid in where it stands.
func normOf(l []api.Item) []api.Item {
	var r []api.Item
	for i, x := range l {
		stays := true
		for j, y := range l {
			if x.Dot == y.Dot {
				stays = stays && (place(y) > place(x) || place(y) == place(x) && j >= i)
			}
		}
		if stays {
			at := 0
			for at < len(r) && place(r[at]) < place(x) {
				at++
			}
			r = slices.Insert(r, at, x)
		}
	}
	return r
}

// inOneForm tells whether l stands in order, and no two have one Dot.
func inOneForm(l []api.Item) bool {
	for i, x := range l {
		for j, y := range l[:i] {
			if x.Dot == y.Dot || j == i-1 && place(y) >= place(x) {
				return false
			}
		}
	}
	return true
}

// chosen is the items for which right holds, as they stand.
func chosen(l []api.Item, right func(api.Item) bool) []api.Item {
	var r []api.Item
	for i := range l {
		if right(l[i]) {
			r = append(r, l[i])
		}
	}
	return r
}

func withoutOf(l []api.Item, dots []api.Dot) []api.Item {
	return chosen(l, func(x api.Item) bool { return !slices.Contains(dots, x.Dot) })
}

func underOf(l []api.Item, z []string) []api.Item {
	return chosen(l, func(x api.Item) bool {
		for _, s := range z {
			if len(x.Key) >= len(s) && x.Key[:len(s)] == s {
				return true
			}
		}
		return false
	})
}

func ofOf(l []api.Item, key string) []api.Item {
	return chosen(l, func(x api.Item) bool { return x.Key == key })
}

func keysOf(l []api.Item) []string {
	m := map[string]struct{}{}
	for _, x := range l {
		m[x.Key] = struct{}{}
	}
	r := slices.Collect(maps.Keys(m))
	sort.Strings(r)
	return r
}

func sizeOf(l []api.Item) int {
	n := 24 * len(l)
	for _, x := range l {
		n += len(x.Key + x.Field + x.Elem)
	}
	return n
}

// elem, reg and count are items of that kind.
func elem(key, field, e string, d api.Dot) api.Item {
	return api.Item{Key: key, Field: field, Kind: api.Elem, Elem: e, Dot: d}
}

func reg(key, field, e string, d api.Dot) api.Item {
	return api.Item{Key: key, Field: field, Kind: api.Reg, Elem: e, Dot: d}
}

func count(key, field string, n int64, d api.Dot) api.Item {
	return api.Item{Key: key, Field: field, Kind: api.Count, N: n, Dot: d}
}

// dot is the dot of those parts.
func dot(node, seq, at int) api.Dot { return api.Dot{Node: node, Seq: seq, At: at} }

// few are items that differ in this and that, some by one Dot, rising.
func few() []api.Item {
	return []api.Item{
		elem("", "", "x", dot(0, 1, 0)),
		elem("a", "", "y", dot(0, 1, 0)),
		elem("a", "", "x", dot(1, 1, 0)),
		elem("a", "", "z", dot(1, 1, 0)),
		count("a", "", -3, dot(0, 2, 0)),
		reg("a/b", "f", "", dot(0, 1, 0)),
		elem("b", "", "x", dot(7, 1<<30, 7)),
	}
}

// lists are all lists of at most so many of these items.
func lists(most int, of []api.Item) [][]api.Item {
	l := [][]api.Item{nil}
	for from := 0; most > 0; most-- {
		end := len(l)
		for _, row := range l[from:end] {
			for _, x := range of {
				l = append(l, append(slices.Clone(row), x))
			}
		}
		from = end
	}
	return l
}

// chance answers numbers below what it is asked, always the same ones for a seed.
func chance(seed uint32) func(below int) int {
	state := seed*2654435761 + 12345
	return func(below int) int {
		state = state*1664525 + 1013904223
		return int(state >> 8 % uint32(below))
	}
}

// some are n items of few values of each part, so that many have one Dot, or differ in one part alone.
func some(n int, seed uint32) []api.Item {
	next := chance(seed)
	keys := []string{"a", "b", "a/", "a/b", "ab", "", "A"}
	l := make([]api.Item, n)
	for i := range l {
		l[i] = api.Item{
			Key: keys[next(len(keys))], Field: keys[next(2)*5], Kind: next(4), Elem: keys[next(3)], N: int64(next(3) - 1),
			Dot: dot(next(3), next(3), next(2)),
		}
	}
	return l
}

// many are n items that are formed, no two of one Dot, in no order.
func many(n int, seed uint32) []api.Item {
	next := chance(seed)
	l := make([]api.Item, n)
	for i := range l {
		at := next(len(letters) - 2)
		d := dot(i%8, i/64+1, i/8%8)
		switch next(3) {
		case 0:
			l[i] = elem(letters[at:at+1+next(2)], letters[at:at+next(3)], strings.Repeat("e", next(33)), d)
		case 1:
			l[i] = reg(letters[at:at+1+next(2)], letters[at:at+next(3)], strings.Repeat("r", next(33)), d)
		case 2:
			l[i] = count(letters[at:at+1+next(2)], letters[at:at+next(3)], int64(next(100)-50), d)
		}
	}
	return l
}

// odd are lists of all kinds, of items that aren't formed too.
func odd() [][]api.Item {
	all := few()
	back := slices.Clone(all)
	slices.Reverse(back)
	l := [][]api.Item{nil, {}, {{}}, {{}, {}}, all, back, slices.Concat(all, back, all), slices.Repeat(all[:1], 30)}
	for _, p := range parts() {
		var row []api.Item
		for i := range p.n {
			x := elem("k", "f", "e", dot(2, 3, 4))
			p.set(&x, i)
			row = append(row, x)
		}
		l = append(l, row)
		row = slices.Clone(row)
		slices.Reverse(row)
		l = append(l, row)
	}
	for seed := range uint32(12) {
		l = append(l, some(int(10+seed*3), seed), many(int(20+seed*5), seed))
	}
	return l
}

// allLists are short ones of each kind, and odd ones.
func allLists() [][]api.Item { return append(lists(3, few()), odd()...) }

// zones are lists of texts that cover something, or nothing, in their one form or not.
func zones() [][]string {
	return [][]string{
		nil, {}, {""}, {"a"}, {"b"}, {"a", "b"}, {"a/"}, {"a/b"}, {"/"}, {"k"}, {"a", "a/b"}, {"a/b", "a"}, {"b", "a"}, {"a", "a"}, {"", "a"}, {"b", ""},
		{"A"}, {"a", "A", "\xff"}, {"\x00"}, {"aa", "ab", "a0"}, {"a\x00", "é"}, {strings.Repeat("a", 16)}, {strings.Repeat("a", 40), "b"},
		{"q", "zz", "c", "0", "1", "2", "3", "4", "5", "6", "a/b", "7", "8", "9"},
	}
}

// same tells whether two have the same items, a list that is nil like an empty one.
func same(a, b []api.Item) bool { return slices.Equal(a, b) }

func checkFormed(t *testing.T, x api.Item, want bool) {
	t.Helper()
	if got := Formed(x); got != want {
		t.Errorf("Formed(%q) = %t; want %t", fmt.Sprint(x), got, want)
	}
}

func checkLess(t *testing.T, a, b api.Item, want bool) {
	t.Helper()
	if got := Less(a, b); got != want {
		t.Errorf("Less(%+v, %+v) = %t; want %t", a, b, got, want)
	}
}

func checkNorm(t *testing.T, l, want []api.Item) {
	t.Helper()
	if got := Norm(l); !same(got, want) {
		t.Errorf("Norm(%.20v) = %.20v; want %.20v", l, got, want)
	}
}

func checkWithout(t *testing.T, l []api.Item, dots []api.Dot, want []api.Item) {
	t.Helper()
	if got := Without(l, dots); !same(got, want) {
		t.Errorf("Without(%.20v, %.20v) = %.20v; want %.20v", l, dots, got, want)
	}
}

func checkUnder(t *testing.T, l []api.Item, z []string, want []api.Item) {
	t.Helper()
	if got := Under(l, z); !same(got, want) {
		t.Errorf("Under(%.20v, %.20q) = %.20v; want %.20v", l, z, got, want)
	}
}

func checkOf(t *testing.T, l []api.Item, key string, want []api.Item) {
	t.Helper()
	if got := Of(l, key); !same(got, want) {
		t.Errorf("Of(%.20v, %q) = %.20v; want %.20v", l, key, got, want)
	}
}

func checkKeys(t *testing.T, l []api.Item, want []string) {
	t.Helper()
	if got := Keys(l); !slices.Equal(got, want) {
		t.Errorf("Keys(%.20v) = %.20q; want %.20q", l, got, want)
	}
}

func checkSize(t *testing.T, l []api.Item, want int) {
	t.Helper()
	if got := Size(l); got != want {
		t.Errorf("Size(%.20v) = %d; want %d", l, got, want)
	}
}

func TestP9_1FormedKnown(t *testing.T) {
	d := dot(0, 1, 0)
	right := []api.Item{
		elem("a", "", "", d), elem("a", "f", "x", d), elem("a/b", "0/", "x y\x00\xff", d), reg("/", "/", "", d), reg("a", "", "é", d),
		count("a", "", 0, d), count("a", "f", 5, d), count("a", "f", -5, dot(7, 1<<30, 7)),
		{Key: "k", Kind: 1, Dot: d}, {Key: "k", Kind: 2, Dot: d}, {Key: "k", Kind: 3, Dot: d},
	}
	for _, x := range right {
		checkFormed(t, x, true)
	}
	wrong := []api.Item{
		{}, elem("", "", "x", d), elem("A", "", "x", d), elem("a", "F", "x", d), elem("a", "", "x", dot(-1, 1, 0)), elem("a", "", "x", dot(0, 0, 0)),
		elem("a", "", "x", dot(0, 1, 8)), {Key: "a", Dot: d}, {Key: "a", Kind: 4, Dot: d}, {Key: "a", Kind: 1, Elem: "x", N: 1, Dot: d}, {Key: "a", Kind: 3, Elem: "x", Dot: d},
	}
	for _, x := range wrong {
		checkFormed(t, x, false)
	}
}

// kinds are an item of each kind, formed.
func kinds() []api.Item {
	return []api.Item{elem("k", "f", "e", dot(2, 3, 4)), reg("k", "f", "r", dot(2, 3, 4)), count("k", "f", 9, dot(2, 3, 4))}
}

func TestP9_1FormedByKeyAndField(t *testing.T) {
	for _, x := range kinds() {
		for n := range 60 {
			y := x
			y.Key = strings.Repeat("a/0", 20)[:n]
			checkFormed(t, y, n >= 1 && n <= 16)
			y = x
			y.Field = strings.Repeat("a/0", 20)[:n]
			checkFormed(t, y, n <= 16)
		}
		for b := range 256 {
			for n := 1; n <= 16; n++ {
				for at := range n {
					s := []byte(strings.Repeat("m", n))
					s[at] = byte(b)
					want := strings.IndexByte(letters, byte(b)) >= 0
					y := x
					y.Key = string(s)
					checkFormed(t, y, want)
					y = x
					y.Field = string(s)
					checkFormed(t, y, want)
				}
			}
		}
		for _, s := range []string{"é", "a b", "a\n", strings.Repeat("é", 8), strings.Repeat("a", 1<<16), "a.b", "{", "`", ":"} {
			y := x
			y.Key = s
			checkFormed(t, y, false)
			y = x
			y.Field = s
			checkFormed(t, y, false)
		}
	}
}

func TestP9_1FormedByKind(t *testing.T) {
	for _, kind := range append(ints(), 5, 6, -3, 1<<32+1) {
		x := api.Item{Key: "k", Field: "f", Kind: kind, Dot: dot(2, 3, 4)}
		checkFormed(t, x, kind >= 1 && kind <= 3)
		x.Elem = "e"
		checkFormed(t, x, kind == 1 || kind == 2)
		x.N = 1
		checkFormed(t, x, false)
		x.Elem = ""
		checkFormed(t, x, kind == 3)
	}
}

func TestP9_1FormedByElem(t *testing.T) {
	for n := range 80 {
		for _, s := range []string{strings.Repeat("a", n), strings.Repeat("\xff\x00 é", 40)[:n], strings.Repeat("\x00", n), strings.Repeat("A!", 40)[:n]} {
			checkFormed(t, elem("k", "f", s, dot(2, 3, 4)), n <= 32)
			checkFormed(t, reg("k", "f", s, dot(2, 3, 4)), n <= 32)
			x := count("k", "f", 0, dot(2, 3, 4))
			x.Elem = s
			checkFormed(t, x, n == 0)
			x.N = 1
			checkFormed(t, x, n == 0)
		}
	}
	for b := range 256 {
		s := string([]byte{byte(b)})
		checkFormed(t, elem("k", "", s, dot(0, 1, 0)), true)
		checkFormed(t, reg("k", "", strings.Repeat(s, 32), dot(0, 1, 0)), true)
		checkFormed(t, reg("k", "", strings.Repeat(s, 33), dot(0, 1, 0)), false)
	}
	// Bytes are counted, not runes.
	checkFormed(t, elem("k", "", strings.Repeat("é", 16), dot(0, 1, 0)), true)
	checkFormed(t, elem("k", "", strings.Repeat("é", 17), dot(0, 1, 0)), false)
}

func TestP9_1FormedByN(t *testing.T) {
	for _, n := range append(numbers(), 1<<32, -1<<32, 1<<30+1) {
		for _, x := range kinds() {
			x.N = n
			checkFormed(t, x, n == 0 || x.Kind == 3)
			x.Elem = ""
			checkFormed(t, x, n == 0 || x.Kind == 3)
		}
	}
}

func TestP9_1FormedByDot(t *testing.T) {
	for _, x := range kinds() {
		for _, n := range append(ints(), 5, 6, 10, 16, 1<<32, 1<<32+1, 1<<31, -1<<31) {
			y := x
			y.Dot.Node = n
			checkFormed(t, y, n >= 0 && n <= 7)
			y = x
			y.Dot.Seq = n
			checkFormed(t, y, n >= 1 && n <= 1<<30)
			y = x
			y.Dot.At = n
			checkFormed(t, y, n >= 0 && n <= 7)
		}
	}
}

func TestP9_1FormedOfEach(t *testing.T) {
	all := parts()
	for _, x := range append(kinds(), few()...) {
		for _, p := range all {
			for i := range p.n {
				y := x
				p.set(&y, i)
				checkFormed(t, y, isFormed(y))
				for _, q := range all {
					for j := range q.n {
						z := y
						q.set(&z, j)
						checkFormed(t, z, isFormed(z))
					}
				}
			}
		}
	}
}

func TestP9_1LessKnown(t *testing.T) {
	checkLess(t, elem("a", "", "x", dot(0, 2, 0)), elem("a", "", "x", dot(1, 1, 0)), true)
	checkLess(t, elem("a", "", "x", dot(1, 1, 0)), elem("a", "", "x", dot(0, 2, 0)), false)
	checkLess(t, elem("a", "", "z", dot(0, 2, 0)), elem("a", "", "a", dot(1, 1, 0)), true)
	checkLess(t, elem("a", "z", "x", dot(1, 1, 0)), elem("a/", "", "x", dot(0, 1, 0)), true)
	checkLess(t, reg("a", "f", "x", dot(7, 9, 0)), count("a", "f", 0, dot(0, 1, 0)), true)
	checkLess(t, elem("a", "f", "x", dot(7, 9, 0)), reg("a", "f", "", dot(0, 1, 0)), true)
	checkLess(t, count("a", "f", -1, dot(7, 9, 0)), count("a", "f", 1, dot(7, 9, 0)), true)
	checkLess(t, count("a", "f", 1, dot(7, 9, 0)), count("a", "f", -1, dot(7, 9, 0)), false)
	checkLess(t, api.Item{}, api.Item{}, false)
	l := few()
	for i, a := range l {
		for j, b := range l {
			checkLess(t, a, b, i < j)
		}
	}
}

func TestP9_1LessByEachPartAlone(t *testing.T) {
	for _, x := range append(kinds(), few()...) {
		for _, p := range parts() {
			for i := range p.n {
				for j := range p.n {
					a, b := x, x
					p.set(&a, i)
					p.set(&b, j)
					checkLess(t, a, b, i < j)
				}
			}
		}
	}
}

func TestP9_1LessByTheFirstPartThatDiffers(t *testing.T) {
	all := parts()
	for at, p := range all {
		for i := 1; i < p.n; i++ {
			// All parts ahead are the same; all behind tell otherwise.
			var a, b api.Item
			for _, q := range all[:at] {
				q.set(&a, q.n/2)
				q.set(&b, q.n/2)
			}
			p.set(&a, i-1)
			p.set(&b, i)
			for _, q := range all[at+1:] {
				q.set(&a, q.n-1)
				q.set(&b, 0)
			}
			checkLess(t, a, b, true)
			checkLess(t, b, a, false)
			// And of those behind just one.
			for _, q := range all[at+1:] {
				c, d := kinds()[i%3], kinds()[i%3]
				p.set(&c, i-1)
				p.set(&d, i)
				q.set(&c, q.n/2+1)
				q.set(&d, q.n/2)
				checkLess(t, c, d, true)
				checkLess(t, d, c, false)
			}
		}
	}
}

func TestP9_1LessOfEachTwo(t *testing.T) {
	l := slices.Concat(append(odd(), some(200, 77))...)
	places := make([]string, len(l))
	for i, x := range l {
		places[i] = place(x)
	}
	for i, a := range l {
		for j, b := range l {
			if Less(a, b) != (places[i] < places[j]) {
				t.Fatalf("Less(%+v, %+v) = %t", a, b, Less(a, b))
			}
			if places[i] == places[j] != (a == b) {
				t.Fatalf("one place of %+v and %+v", a, b)
			}
		}
	}
}

func TestP9_2NormKnown(t *testing.T) {
	one, two := elem("a", "f", "x", dot(1, 1, 0)), elem("a", "f", "y", dot(0, 2, 0))
	checkNorm(t, []api.Item{one, two}, []api.Item{two, one})
	checkNorm(t, []api.Item{two, one}, []api.Item{two, one})
	checkNorm(t, nil, nil)
	checkNorm(t, []api.Item{}, nil)
	checkNorm(t, []api.Item{one}, []api.Item{one})
	checkNorm(t, []api.Item{one, one}, []api.Item{one})
	checkNorm(t, []api.Item{one, two, one, two, two}, []api.Item{two, one})
	checkNorm(t, []api.Item{{}}, []api.Item{{}})
	checkNorm(t, []api.Item{{}, {}, {}}, []api.Item{{}})
	// The second one's Dot stands ahead already, by a key that is lesser.
	other := elem("b", "f", "x", dot(0, 2, 0))
	checkNorm(t, []api.Item{other, one, two}, []api.Item{two, one})
	checkNorm(t, []api.Item{other, one}, []api.Item{one, other})
	l := few()
	checkNorm(t, l, []api.Item{l[0], l[2], l[4], l[6]})
}

func TestP9_2NormOfEachOrder(t *testing.T) {
	rising := []api.Item{
		elem("a", "", "x", dot(0, 1, 0)), elem("a", "", "x", dot(0, 1, 1)), elem("a", "", "a", dot(0, 2, 0)), reg("a", "", "", dot(0, 3, 0)), count("a", "a", 1, dot(0, 0, 0)), elem("aa", "", "", dot(-1, 0, 0)),
	}
	var lay func(l, rest []api.Item)
	lay = func(l, rest []api.Item) {
		if len(rest) == 0 {
			checkNorm(t, l, rising)
		}
		for i := range rest {
			lay(append(slices.Clone(l), rest[i]), slices.Delete(slices.Clone(rest), i, i+1))
		}
	}
	lay(nil, rising)
}

func TestP9_2NormOfOneDot(t *testing.T) {
	// Wherever it stands, the one that is first in order stays, by whatever part it is first.
	for _, p := range parts() {
		if p.name == "Node" || p.name == "Seq" || p.name == "At" {
			continue
		}
		var l []api.Item
		for i := range p.n {
			x := elem("k", "f", "e", dot(2, 3, 4))
			p.set(&x, i)
			l = append(l, x)
		}
		for at := range l {
			turned := slices.Concat(l[at:], l[:at])
			checkNorm(t, turned, l[:1])
			slices.Reverse(turned)
			checkNorm(t, turned, l[:1])
			checkNorm(t, slices.Concat(turned, turned), l[:1])
			checkNorm(t, l[at:], l[at:at+1])
		}
	}
}

func TestP9_2NormByEachPartOfTheDot(t *testing.T) {
	// Dots that differ in one part alone are two.
	for _, p := range parts()[3:6] {
		var l []api.Item
		for i := range p.n {
			x := elem("k", "f", "e", dot(2, 3, 4))
			p.set(&x, i)
			l = append(l, x)
		}
		turned := slices.Clone(l)
		slices.Reverse(turned)
		checkNorm(t, turned, l)
		checkNorm(t, slices.Concat(turned, l), l)
	}
}

func TestP9_2NormOfEach(t *testing.T) {
	for _, l := range append(lists(4, few()), odd()...) {
		checkNorm(t, l, normOf(l))
	}
	for seed := range uint32(500) {
		l := some(int(seed%30), seed)
		checkNorm(t, l, normOf(l))
	}
}

// turned are a list in a few other orders.
func turned(l []api.Item, seed uint32) [][]api.Item {
	back := slices.Clone(l)
	slices.Reverse(back)
	next := chance(seed)
	mixed := slices.Clone(l)
	for i := range mixed {
		j := next(i + 1)
		mixed[i], mixed[j] = mixed[j], mixed[i]
	}
	return [][]api.Item{back, mixed, slices.Concat(l[len(l)/2:], l[:len(l)/2])}
}

func TestP9_2NormHangsOnNoOrder(t *testing.T) {
	for seed, l := range allLists() {
		for _, other := range turned(l, uint32(seed)) {
			checkNorm(t, other, Norm(l))
		}
	}
}

// dotLists are lists of dots.
func dotLists() [][]api.Dot {
	var each []api.Dot
	for node := range 3 {
		for seq := range 3 {
			each = append(each, dot(node, seq, 0), dot(node, seq, 1))
		}
	}
	return [][]api.Dot{
		nil, {}, {{}}, {dot(0, 1, 0)}, {dot(0, 1, 0), dot(0, 1, 0)}, {dot(1, 1, 0)}, {dot(1, 0, 0)}, {dot(0, 0, 1)}, {dot(1, 1, 0), dot(0, 2, 0)}, {dot(0, 2, 0), dot(5, 5, 5), dot(1, 1, 0), dot(0, 2, 0)},
		{dot(7, 1<<30, 7)}, {dot(-1, -1, -1)}, {dot(2, 3, 4)}, {dot(math.MinInt, math.MaxInt, -1), dot(2, math.MinInt, 4)}, each, each[6:], slices.Concat(each, each),
	}
}

func TestP9_2WithoutKnown(t *testing.T) {
	l := few()
	checkWithout(t, nil, nil, nil)
	checkWithout(t, nil, []api.Dot{dot(0, 1, 0)}, nil)
	checkWithout(t, l, nil, l)
	checkWithout(t, l, []api.Dot{}, l)
	checkWithout(t, l, []api.Dot{dot(3, 3, 3), dot(0, 1, 1), dot(0, 0, 0), dot(1, 0, 0)}, l)
	checkWithout(t, l, []api.Dot{dot(0, 1, 0)}, []api.Item{l[2], l[3], l[4], l[6]})
	checkWithout(t, l, []api.Dot{dot(1, 1, 0), dot(1, 1, 0)}, []api.Item{l[0], l[1], l[4], l[5], l[6]})
	checkWithout(t, l, []api.Dot{dot(7, 1<<30, 7), dot(0, 2, 0)}, []api.Item{l[0], l[1], l[2], l[3], l[5]})
	checkWithout(t, l, []api.Dot{dot(0, 1, 0), dot(1, 1, 0), dot(0, 2, 0), dot(7, 1<<30, 7)}, nil)
	back := slices.Clone(l)
	slices.Reverse(back)
	checkWithout(t, back, []api.Dot{dot(0, 1, 0)}, []api.Item{l[6], l[4], l[3], l[2]})
	checkWithout(t, []api.Item{l[2], l[2], l[0], l[2]}, []api.Dot{dot(0, 1, 0)}, []api.Item{l[2], l[2], l[2]})
	checkWithout(t, []api.Item{{}, l[0], {}}, []api.Dot{{}}, l[:1])
}

func TestP9_2WithoutByEachPartOfTheDot(t *testing.T) {
	for _, p := range parts()[3:6] {
		var l []api.Item
		for i := range p.n {
			x := elem("k", "f", "e", dot(2, 3, 4))
			p.set(&x, i)
			l = append(l, x)
		}
		for i, x := range l {
			checkWithout(t, l, []api.Dot{x.Dot}, slices.Delete(slices.Clone(l), i, i+1))
		}
	}
}

func TestP9_2WithoutOfEach(t *testing.T) {
	for _, l := range allLists() {
		dots := dotLists()
		for i := range min(len(l), 12) {
			dots = append(dots, []api.Dot{l[i].Dot}, []api.Dot{l[0].Dot, l[i].Dot})
		}
		for _, d := range dots {
			checkWithout(t, l, d, withoutOf(l, d))
		}
		var all []api.Dot
		for _, x := range l {
			all = append(all, x.Dot)
		}
		checkWithout(t, l, all, nil)
	}
}

func TestP9_2UnderKnown(t *testing.T) {
	l := few()
	checkUnder(t, nil, nil, nil)
	checkUnder(t, nil, []string{""}, nil)
	checkUnder(t, l, nil, nil)
	checkUnder(t, l, []string{}, nil)
	checkUnder(t, l, []string{""}, l)
	checkUnder(t, l, []string{"a"}, l[1:6])
	checkUnder(t, l, []string{"a/"}, l[5:6])
	checkUnder(t, l, []string{"a/b"}, l[5:6])
	checkUnder(t, l, []string{"a/bc"}, nil)
	checkUnder(t, l, []string{"b"}, l[6:])
	checkUnder(t, l, []string{"b", "a/"}, l[5:])
	checkUnder(t, l, []string{"x", "b", "a", "a/b", "b", "A", "\xff"}, l[1:])
	checkUnder(t, l, []string{"q", ""}, l)
	// Keys that may not be, and texts that are no prefixes: they begin with one another, or not.
	odd := []api.Item{{Key: "Z b"}, {Key: "\xff\x00"}, {Key: "Z"}, {Key: strings.Repeat("z", 20)}, {Key: ""}, {Key: "Z b", N: 1}}
	checkUnder(t, odd, []string{"Z "}, []api.Item{odd[0], odd[5]})
	checkUnder(t, odd, []string{"\xff"}, odd[1:2])
	checkUnder(t, odd, []string{strings.Repeat("z", 20), "Z b", "Z c"}, []api.Item{odd[0], odd[3], odd[5]})
	checkUnder(t, odd, []string{strings.Repeat("z", 21), "z!"}, nil)
	checkUnder(t, odd, []string{""}, odd)
}

func TestP9_2UnderOfEach(t *testing.T) {
	for _, l := range allLists() {
		for _, z := range zones() {
			checkUnder(t, l, z, underOf(l, z))
		}
		for _, s := range texts() {
			checkUnder(t, l, []string{s}, underOf(l, []string{s}))
			checkUnder(t, l, []string{"b", s, "a/"}, underOf(l, []string{"b", s, "a/"}))
		}
	}
}

func TestP9_2OfKnown(t *testing.T) {
	l := few()
	checkOf(t, nil, "", nil)
	checkOf(t, nil, "a", nil)
	checkOf(t, l, "", l[:1])
	checkOf(t, l[1:], "", nil)
	checkOf(t, l, "a", l[1:5])
	checkOf(t, l, "a/", nil)
	checkOf(t, l, "a/b", l[5:6])
	checkOf(t, l, "b", l[6:])
	checkOf(t, l, "c", nil)
	checkOf(t, l, "A", nil)
	back := slices.Clone(l)
	slices.Reverse(back)
	checkOf(t, back, "a", []api.Item{l[4], l[3], l[2], l[1]})
	checkOf(t, []api.Item{l[1], l[6], l[1], l[0], l[2]}, "a", []api.Item{l[1], l[1], l[2]})
}

func TestP9_2OfEach(t *testing.T) {
	for _, l := range allLists() {
		for _, key := range append(texts(), "k", "f", "e", "ac", "aaaa") {
			checkOf(t, l, key, ofOf(l, key))
		}
	}
}

func TestP9_3KeysKnown(t *testing.T) {
	l := few()
	checkKeys(t, nil, nil)
	checkKeys(t, []api.Item{}, nil)
	checkKeys(t, []api.Item{{}}, []string{""})
	checkKeys(t, l, []string{"", "a", "a/b", "b"})
	checkKeys(t, l[1:3], []string{"a"})
	back := slices.Clone(l)
	slices.Reverse(back)
	checkKeys(t, back, []string{"", "a", "a/b", "b"})
	checkKeys(t, []api.Item{l[6], l[1], l[6], l[1], l[6]}, []string{"a", "b"})
	checkKeys(t, []api.Item{{Key: "b"}, {Key: "\xff"}, {Key: "B"}, {Key: "a/"}, {Key: "a"}, {Key: "a0"}, {Key: "b"}}, []string{"B", "a", "a/", "a0", "b", "\xff"})
	// Fields and elements are no keys.
	checkKeys(t, []api.Item{{Key: "k", Field: "f", Elem: "e"}, {Key: "k", Field: "g", Elem: "h"}}, []string{"k"})
}

func TestP9_3KeysOfEach(t *testing.T) {
	for seed, l := range append(lists(4, few()), odd()...) {
		checkKeys(t, l, keysOf(l))
		for _, other := range turned(l, uint32(seed)) {
			checkKeys(t, other, keysOf(l))
		}
		checkKeys(t, slices.Concat(l, l), keysOf(l))
		checkKeys(t, Norm(l), keysOf(normOf(l)))
	}
}

func TestP9_3SizeKnown(t *testing.T) {
	checkSize(t, nil, 0)
	checkSize(t, []api.Item{}, 0)
	checkSize(t, []api.Item{{}}, 24)
	checkSize(t, []api.Item{{}, {}, {}}, 72)
	checkSize(t, []api.Item{elem("a", "", "", dot(0, 1, 0))}, 25)
	checkSize(t, []api.Item{elem("a", "bb", "cccc", dot(0, 1, 0))}, 31)
	checkSize(t, []api.Item{reg("aaaa", "", "c", dot(7, 1<<30, 7))}, 29)
	checkSize(t, []api.Item{count("aa", "b", math.MinInt64, dot(7, 1<<30, 7))}, 27)
	checkSize(t, []api.Item{elem(strings.Repeat("k", 16), strings.Repeat("f", 16), strings.Repeat("e", 32), dot(0, 1, 0))}, 88)
	checkSize(t, []api.Item{{Key: strings.Repeat("k", 1000), Field: strings.Repeat("\xff", 2000), Elem: strings.Repeat("é", 2000)}}, 7024)
	checkSize(t, few(), 7*24+0+1+1+1+1+3+1+1+1+1+1+1+1)
	checkSize(t, slices.Repeat(few()[6:], 10), 260)
}

func TestP9_3SizeOfEach(t *testing.T) {
	for _, l := range append(lists(4, few()), odd()...) {
		checkSize(t, l, sizeOf(l))
	}
	// Of each item its texts' bytes alone count, and each of them as much as another one.
	for _, p := range parts() {
		for i := range p.n {
			x := elem("k", "f", "e", dot(2, 3, 4))
			p.set(&x, i)
			checkSize(t, []api.Item{x}, len(x.Key)+len(x.Field)+len(x.Elem)+24)
			checkSize(t, []api.Item{x, {}, x}, 2*(len(x.Key)+len(x.Field)+len(x.Elem))+72)
		}
	}
}

func TestP9_3SizeOfAsManyAsMayBe(t *testing.T) {
	l := slices.Repeat([]api.Item{elem(strings.Repeat("k", 16), strings.Repeat("f", 16), strings.Repeat("e", 32), dot(0, 1, 0))}, 1<<20)
	checkSize(t, l, 88<<20)
	checkKeys(t, l, []string{l[0].Key})
	checkNorm(t, l, l[:1])
}

func TestP9_4NormOfNormIsTheSame(t *testing.T) {
	for _, l := range append(lists(4, few()), odd()...) {
		n := Norm(l)
		if !inOneForm(n) {
			t.Fatalf("Norm(%.20v) = %.20v, which is not in its one form", l, n)
		}
		checkNorm(t, n, n)
		for i, x := range n[:max(0, len(n)-1)] {
			checkLess(t, x, n[i+1], true)
		}
		for _, x := range l {
			if !slices.ContainsFunc(n, func(y api.Item) bool { return x.Dot == y.Dot }) {
				t.Fatalf("Norm(%.20v) = %.20v has no item of the dot %v", l, n, x.Dot)
			}
		}
		for _, x := range n {
			if !slices.Contains(l, x) {
				t.Fatalf("Norm(%.20v) = %.20v has %v", l, n, x)
			}
		}
	}
}

func TestP9_4OneFormStays(t *testing.T) {
	for _, list := range allLists() {
		l := Norm(list)
		dots := dotLists()
		if len(l) > 0 {
			dots = append(dots, []api.Dot{l[0].Dot}, []api.Dot{l[len(l)/2].Dot}, []api.Dot{l[len(l)-1].Dot, l[0].Dot})
		}
		for _, d := range dots {
			got := Without(l, d)
			if !inOneForm(got) {
				t.Fatalf("Without(%.20v, %v) = %.20v, which is not in its one form", l, d, got)
			}
			checkNorm(t, got, got)
			checkWithout(t, got, d, got)
		}
		for _, z := range zones() {
			got := Under(l, z)
			if !inOneForm(got) {
				t.Fatalf("Under(%.20v, %q) = %.20v, which is not in its one form", l, z, got)
			}
			checkNorm(t, got, got)
			checkUnder(t, got, z, got)
		}
		for _, key := range append(Keys(l), texts()...) {
			got := Of(l, key)
			if !inOneForm(got) {
				t.Fatalf("Of(%.20v, %q) = %.20v, which is not in its one form", l, key, got)
			}
			checkNorm(t, got, got)
			checkOf(t, got, key, got)
		}
	}
}

func TestP9_4NormTakesNothingTwice(t *testing.T) {
	// Where no Dot stands twice, all items stay, and the calls go on both sides of Norm alike.
	for seed := range uint32(20) {
		l := many(int(seed*7), seed)
		n := Norm(l)
		if len(n) != len(l) {
			t.Fatalf("Norm of %d items of as many dots has %d", len(l), len(n))
		}
		checkSize(t, n, Size(l))
		checkKeys(t, n, Keys(l))
		for _, other := range turned(l, seed) {
			checkNorm(t, other, n)
		}
		for _, z := range zones() {
			checkNorm(t, Under(l, z), Under(n, z))
		}
		for _, key := range Keys(l) {
			checkNorm(t, Of(l, key), Of(n, key))
		}
		for _, d := range dotLists() {
			checkNorm(t, Without(l, d), Without(n, d))
		}
	}
}

func TestP9_4PartsOfAllKeysAreAll(t *testing.T) {
	for _, list := range allLists() {
		for _, l := range [][]api.Item{list, Norm(list)} {
			var all []api.Item
			sum := 0
			for _, key := range Keys(l) {
				part := Of(l, key)
				if len(part) == 0 {
					t.Fatalf("Of(%.20v, %q) has nothing, but it is one of its keys", l, key)
				}
				checkKeys(t, part, []string{key})
				all = append(all, part...)
				sum += Size(part)
			}
			checkSize(t, l, sum)
			if len(all) != len(l) {
				t.Fatalf("the parts of %.20v have %d items", l, len(all))
			}
			if inOneForm(l) && !same(all, l) {
				t.Fatalf("the parts of %.20v are %.20v", l, all)
			}
			checkNorm(t, all, Norm(l))
		}
	}
}

func TestP9_4UnderTwoListsTogether(t *testing.T) {
	for _, l := range append(odd(), lists(2, few())...) {
		for _, a := range zones() {
			for _, b := range zones() {
				inA, inB := Under(l, a), Under(l, b)
				checkUnder(t, l, slices.Concat(a, b), chosen(l, func(x api.Item) bool { return slices.Contains(inA, x) || slices.Contains(inB, x) }))
				checkUnder(t, inA, b, chosen(inA, func(x api.Item) bool { return slices.Contains(inB, x) }))
			}
		}
	}
}

func TestP9_4WithoutTwoListsTogether(t *testing.T) {
	for _, l := range append(odd(), lists(2, few())...) {
		for _, a := range dotLists() {
			for _, b := range dotLists() {
				checkWithout(t, l, slices.Concat(a, b), Without(Without(l, a), b))
			}
		}
	}
}

// spare is a list that has more behind it as its spare room, and the whole of it.
func spare[T any](l []T, more ...T) (whole, laid []T) {
	whole = slices.Concat(l, more)
	return whole, whole[:len(l)]
}

// turn changes all of an answer, spare room and all.
func turn[T any](answer []T, to T) {
	for i := range answer[:cap(answer)] {
		answer[:cap(answer)][i] = to
	}
}

// kept asks that what was handed in is what it was, spare room and all.
func kept[T comparable](t *testing.T, what string, whole, before []T) {
	t.Helper()
	if !slices.Equal(whole, before) {
		t.Fatalf("%s: what was handed in, or its spare room, was changed, or is shared: %v; want %v", what, whole, before)
	}
}

func TestP9_2NothingIsChangedOrShared(t *testing.T) {
	odd := api.Item{Key: "turned", N: 7}
	for _, list := range append(lists(4, few()[1:5]), allLists()...) {
		whole, l := spare(list, few()...)
		before := slices.Clone(whole)
		answers := map[string][]api.Item{
			"Norm": Norm(l), "Without nothing": Without(l, nil), "Without some": Without(l, []api.Dot{dot(1, 1, 0)}),
			"Under all": Under(l, []string{""}), "Under some": Under(l, []string{"a"}), "Of": Of(l, "a"), "Of none": Of(l, "none"),
		}
		keys := Keys(l)
		Size(l)
		kept(t, "all calls", whole, before)
		for what, answer := range answers {
			turn(answer, odd)
			kept(t, what, whole, before)
		}
		turn(keys, "turned")
		kept(t, "Keys", whole, before)
	}
}

func TestP9_2DotsAndZonesAreNotChanged(t *testing.T) {
	for _, l := range odd() {
		for _, list := range dotLists() {
			whole, dots := spare(list, dot(1, 1, 0), dot(9, 9, 9), dot(0, 1, 0), dot(0, 0, 0))
			before := slices.Clone(whole)
			Without(l, dots)
			kept(t, "Without", whole, before)
		}
		for _, list := range zones() {
			whole, z := spare(list, "b", "a", "", "A", "a/b", "a")
			before := slices.Clone(whole)
			Under(l, z)
			kept(t, "Under", whole, before)
		}
	}
}

func TestP9_2SpareRoomSaysNothing(t *testing.T) {
	for _, list := range allLists() {
		_, l := spare(list, few()...)
		checkNorm(t, l, normOf(list))
		checkKeys(t, l, keysOf(list))
		checkSize(t, l, sizeOf(list))
		checkOf(t, l, "a", ofOf(list, "a"))
		_, dots := spare([]api.Dot{dot(0, 2, 0)}, dot(1, 1, 0), dot(0, 1, 0))
		checkWithout(t, l, dots, withoutOf(list, []api.Dot{dot(0, 2, 0)}))
		_, z := spare([]string{"b"}, "a", "")
		checkUnder(t, l, z, underOf(list, []string{"b"}))
	}
}

func TestP9_2AnswersAreApart(t *testing.T) {
	// Each call answers memory of its own, also where the answer is what was handed in.
	l := []api.Item{elem("k", "f", "a", dot(0, 9, 0)), reg("k", "f", "a", dot(0, 9, 1)), count("k", "g", 5, dot(0, 1, 0))}
	answers := func() [][]api.Item {
		return [][]api.Item{Norm(l), Without(l, nil), Without(l, []api.Dot{dot(5, 5, 5)}), Under(l, []string{""}), Under(l, []string{"k"}), Of(l, "k")}
	}
	first, keys := answers(), Keys(l)
	second, others := answers(), Keys(l)
	for i, a := range first {
		turn(a, api.Item{Key: "turned"})
		for _, b := range first[i+1:] {
			if !same(b, l) {
				t.Fatalf("answer is %v behind a change of another one; want %v", b, l)
			}
		}
	}
	for _, b := range second {
		if !same(b, l) {
			t.Fatalf("answer is %v behind a change of another one; want %v", b, l)
		}
	}
	turn(keys, "turned")
	if !slices.Equal(others, []string{"k"}) {
		t.Fatalf("Keys are %q behind a change of another answer", others)
	}
}

func TestP9_2SameEachTime(t *testing.T) {
	for seed := range uint32(5) {
		l := some(300, seed)
		want, keys := Norm(l), Keys(l)
		var dots []api.Dot
		for _, x := range some(20, seed+50) {
			dots = append(dots, x.Dot)
		}
		rest := Without(l, dots)
		for range 20 {
			checkNorm(t, l, want)
			checkKeys(t, l, keys)
			checkWithout(t, l, dots, rest)
		}
	}
}

func TestP9_2LongLists(t *testing.T) {
	const n = 1 << 17
	rising := make([]api.Item, n)
	dots := make([]api.Dot, n)
	keys := make([]string, n)
	for i := range rising {
		keys[i] = fmt.Sprintf("k%07d", i)
		dots[i] = dot(i%8, i/8+1, 0)
		rising[i] = elem(keys[i], "", "x", dots[i])
	}
	back := slices.Clone(rising)
	slices.Reverse(back)
	checkNorm(t, back, rising)
	checkNorm(t, slices.Concat(back, rising, back), rising)
	checkKeys(t, back, keys)
	checkSize(t, back, n*(24+8+1))
	checkWithout(t, back, dots, nil)
	checkWithout(t, back, dots[:n-3], back[:3])
	checkWithout(t, rising, dots[3:], rising[:3])
	checkUnder(t, back, keys, back)
	checkUnder(t, back, keys[3:], back[:n-3])
	beside := make([]string, n)
	for i, key := range keys {
		beside[n-1-i] = key + "x"
	}
	checkUnder(t, rising, beside, nil)
	checkUnder(t, rising, append(beside, "k0000"), rising[:1000])
	checkOf(t, back, keys[5], rising[5:6])
}
