package view

import (
	"fmt"
	"maps"
	"math"
	"math/big"
	"slices"
	"sort"
	"strings"
	"testing"

	"buttery/api"
	"buttery/item"
)

const (
	top    = math.MaxInt64
	bottom = math.MinInt64
)

// texts are values of keys, fields and Elems, the lesser ones first: such as may be, and such as may not.
func texts() []string {
	return []string{
		"", "\x00", "\x00\x00", "\x00a", " ", "/", "//", "/a", "0", "9", "A", "a", "a\x00", "a/", "a/b", "a0", "aa",
		strings.Repeat("a", 16), strings.Repeat("a", 17), strings.Repeat("a", 32), strings.Repeat("a", 33), "aab", "ab", "b", "ba", "z", "é", "\xff", "\xff\xff",
	}
}

// kindsThatAreNone are numbers of kinds that are none.
func kindsThatAreNone() []int {
	return []int{math.MinInt, -1<<32 + 1, -3, -2, -1, 0, 4, 5, 6, 7, 1<<8 + 1, 1<<16 + 2, 1<<32 + 1, 1<<32 + 2, 1<<32 + 3, math.MaxInt}
}

// edges are numbers at which a sum may turn.
func edges() []int64 {
	return []int64{bottom, bottom + 1, bottom / 2, -1 << 32, -1 << 31, -2, -1, 0, 1, 2, 1 << 31, 1 << 32, top / 2, top/2 + 1, top - 1, top}
}

// dot is the dot of those parts.
func dot(node, seq, at int) api.Dot { return api.Dot{Node: node, Seq: seq, At: at} }

// elem, reg and count are items of that kind.
func elem(key, field, e string, d api.Dot) api.Item {
	return api.Item{Key: key, Field: field, Kind: api.Elem, Elem: e, Dot: d}
}

func reg(key, field, e string, d api.Dot) api.Item {
	return api.Item{Key: key, Field: field, Kind: api.Reg, Elem: e, Dot: d}
}

func count(key, field string, n int64, d api.Dot) api.Item {
	return api.Item{Key: key, Field: field, Kind: api.Count, N: n, Dot: d}
}

// elems, regs and counts are items of that kind under the field "f" of the key "k", no two of one Dot.
func elems(texts ...string) []api.Item {
	var l []api.Item
	for i, s := range texts {
		l = append(l, elem("k", "f", s, dot(0, i+1, 0)))
	}
	return l
}

func regs(texts ...string) []api.Item {
	var l []api.Item
	for i, s := range texts {
		l = append(l, reg("k", "f", s, dot(1, i+1, 0)))
	}
	return l
}

func counts(numbers ...int64) []api.Item {
	var l []api.Item
	for i, n := range numbers {
		l = append(l, count("k", "f", n, dot(2, i+1, 0)))
	}
	return l
}

// onceOf is these texts, rising, each once.
func onceOf(l []string) []string {
	m := map[string]struct{}{}
	for _, s := range l {
		m[s] = struct{}{}
	}
	r := slices.Collect(maps.Keys(m))
	sort.Strings(r)
	return r
}

// fieldOf is what the document says of a field; its total is told by numbers without an end.
func fieldOf(l []api.Item, key, field string) api.Val {
	var of [4][]string
	sum := new(big.Int)
	for _, x := range l {
		if x.Key == key && x.Field == field && x.Kind >= 1 && x.Kind <= 3 {
			of[x.Kind] = append(of[x.Kind], x.Elem)
			if x.Kind == 3 {
				sum.Add(sum, big.NewInt(x.N))
			}
		}
	}
	v := api.Val{Elems: onceOf(of[1]), Regs: onceOf(of[2])}
	if sum.IsInt64() {
		v.Total = sum.Int64()
	} else {
		v.Over = true
	}
	return v
}

// fieldsOf is what the document says of a key's fields.
func fieldsOf(l []api.Item, key string) []string {
	var r []string
	for _, x := range l {
		if x.Key == key {
			r = append(r, x.Field)
		}
	}
	return onceOf(r)
}

// sameVal tells whether two are the same by what they look like, a list that is nil like an empty one.
func sameVal(a, b api.Val) bool {
	look := func(v api.Val) string { return fmt.Sprintf("%q %q %d %t", v.Elems, v.Regs, v.Total, v.Over) }
	return look(a) == look(b)
}

// short tells a value, no longer than one can read.
func short(v any) string {
	s := fmt.Sprintf("%+q", fmt.Sprintf("%+v", v))
	if len(s) > 1000 {
		return s[:1000] + ".."
	}
	return s
}

func checkField(t *testing.T, l []api.Item, key, field string, want api.Val) {
	t.Helper()
	if got := Field(l, key, field); !sameVal(got, want) {
		t.Fatalf("Field(%s, %q, %q) = %s; want %s", short(l), key, field, short(got), short(want))
	}
}

func checkFields(t *testing.T, l []api.Item, key string, want []string) {
	t.Helper()
	if got := Fields(l, key); !slices.Equal(got, want) {
		t.Fatalf("Fields(%s, %q) = %s; want %s", short(l), key, short(got), short(want))
	}
}

func checkEmpty(t *testing.T, v api.Val, want bool) {
	t.Helper()
	if got := Empty(v); got != want {
		t.Fatalf("Empty(%s) = %t; want %t", short(v), got, want)
	}
}

func checkSame(t *testing.T, a, b api.Val, want bool) {
	t.Helper()
	if got := Same(a, b); got != want {
		t.Fatalf("Same(%s, %s) = %t; want %t", short(a), short(b), got, want)
	}
}

// checkAll holds all fields of these keys against what the document says.
func checkAll(t *testing.T, l []api.Item, keys, fields []string) {
	t.Helper()
	for _, key := range keys {
		checkFields(t, l, key, fieldsOf(l, key))
		for _, field := range fields {
			checkField(t, l, key, field, fieldOf(l, key, field))
		}
	}
}

// rows are all lists of at most so many of these.
func rows[T any](most int, of ...T) [][]T {
	l := [][]T{nil}
	for from := 0; most > 0; most-- {
		end := len(l)
		for _, row := range l[from:end] {
			for _, x := range of {
				l = append(l, append(slices.Clone(row), x))
			}
		}
		from = end
	}
	return l
}

// turns are all orders in which a list may stand.
func turns[T any](l []T) [][]T {
	if len(l) == 0 {
		return [][]T{nil}
	}
	var r [][]T
	for _, rest := range turns(l[1:]) {
		for i := range len(rest) + 1 {
			r = append(r, slices.Insert(slices.Clone(rest), i, l[0]))
		}
	}
	return r
}

// chance answers numbers below what it is asked, always the same ones for a seed.
func chance(seed uint32) func(below int) int {
	state := seed*2654435761 + 12345
	return func(below int) int {
		state = state*1664525 + 1013904223
		return int(state >> 8 % uint32(below))
	}
}

// someTexts are what some says of keys and fields.
func someTexts() []string { return []string{"a", "", "b", "a/", "ab", "A"} }

// some are n items of few values of each part, so that many share a field, an Elem or a Dot, or differ in one part alone.
func some(n int, next func(int) int) []api.Item {
	s, numbers := someTexts(), edges()
	l := make([]api.Item, n)
	for i := range l {
		l[i] = api.Item{
			Key: s[next(len(s))], Field: s[next(3)], Kind: next(6) - 1, Elem: s[next(len(s))], N: numbers[next(len(numbers))],
			Dot: dot(next(3), next(3), next(2)),
		}
	}
	return l
}

// few are items that differ in this and that, many of them of one field, some not formed, some by one Dot.
func few() []api.Item {
	return []api.Item{
		elem("a", "", "y", dot(0, 1, 0)),
		elem("a", "", "x", dot(1, 1, 0)),
		elem("a", "a", "x", dot(1, 1, 0)),
		elem("", "a", "x", dot(0, 1, 0)),
		reg("a", "", "x", dot(0, 1, 0)),
		reg("a", "", "", dot(0, 2, 0)),
		count("a", "", top, dot(0, 2, 0)),
		count("a", "", -5, dot(7, 1<<30, 7)),
		{Key: "a", Kind: api.Count, Elem: "q", N: 6},
		{Key: "a", Kind: api.Elem, Elem: strings.Repeat("z", 33), N: 9, Dot: dot(-1, 0, 9)},
		{Key: "a", Kind: 4, Elem: "x", N: 1},
		{},
	}
}

func TestP11_1FieldKnown(t *testing.T) {
	l := []api.Item{reg("a", "f", "x", dot(0, 1, 0)), reg("a", "f", "a", dot(1, 1, 0))}
	checkField(t, l, "a", "f", api.Val{Regs: []string{"a", "x"}})
	l = []api.Item{elem("a", "f", "x", dot(0, 1, 0)), elem("a", "f", "a", dot(1, 1, 0)), elem("a", "f", "b", dot(1, 1, 1))}
	checkField(t, l, "a", "f", api.Val{Elems: []string{"a", "b", "x"}})
	l = []api.Item{count("a", "f", 5, dot(0, 1, 0)), count("a", "f", 7, dot(1, 1, 0)), count("a", "f", -20, dot(2, 1, 0))}
	checkField(t, l, "a", "f", api.Val{Total: -8})
	l = slices.Concat(counts(1, 2), regs("q", "p"), elems("n", "m"), counts(-7))
	checkField(t, l, "k", "f", api.Val{Elems: []string{"m", "n"}, Regs: []string{"p", "q"}, Total: -4})
	// Each field by itself, the one without a name too.
	l = []api.Item{elem("a", "", "x", dot(0, 1, 0)), elem("a", "f", "y", dot(0, 1, 1)), elem("b", "f", "z", dot(0, 1, 2)), elem("b", "", "w", dot(0, 1, 3))}
	checkField(t, l, "a", "", api.Val{Elems: []string{"x"}})
	checkField(t, l, "a", "f", api.Val{Elems: []string{"y"}})
	checkField(t, l, "b", "f", api.Val{Elems: []string{"z"}})
	checkField(t, l, "b", "", api.Val{Elems: []string{"w"}})
}

func TestP11_1FieldOfNone(t *testing.T) {
	checkField(t, nil, "k", "f", api.Val{})
	checkField(t, []api.Item{}, "k", "f", api.Val{})
	checkField(t, nil, "", "", api.Val{})
	others := [][2]string{{"k", "g"}, {"k", ""}, {"k", "ff"}, {"k", "f/"}, {"k", "F"}, {"j", "f"}, {"", "f"}, {"kk", "f"}, {"k/", "f"}, {"K", "f"}, {"f", "k"}, {"kf", ""}, {"", "kf"}, {"", ""}}
	mine := slices.Concat(elems("x"), regs("y"), counts(3))
	for _, other := range others {
		var l []api.Item
		for _, x := range mine {
			x.Key, x.Field = other[0], other[1]
			l = append(l, x)
		}
		checkField(t, l, "k", "f", api.Val{})
		checkField(t, l, other[0], other[1], api.Val{Elems: []string{"x"}, Regs: []string{"y"}, Total: 3})
		checkField(t, slices.Concat(l, mine, l), "k", "f", api.Val{Elems: []string{"x"}, Regs: []string{"y"}, Total: 3})
		checkField(t, mine, other[0], other[1], api.Val{})
	}
}

func TestP11_1FieldByKinds(t *testing.T) {
	// Each kind alone, each two, and all three.
	for mask := range 8 {
		var l []api.Item
		var want api.Val
		if mask&1 != 0 {
			l = append(l, elems("y", "x")...)
			want.Elems = []string{"x", "y"}
		}
		if mask&2 != 0 {
			l = append(l, regs("y", "w", "x")...)
			want.Regs = []string{"w", "x", "y"}
		}
		if mask&4 != 0 {
			l = append(l, counts(4, 5)...)
			want.Total = 9
		}
		for _, turned := range turns(l[:min(len(l), 6)]) {
			checkField(t, append(turned, l[min(len(l), 6):]...), "k", "f", want)
		}
	}
	// A kind that is none tells nothing, beside others too.
	for _, kind := range kindsThatAreNone() {
		none := api.Item{Key: "k", Field: "f", Kind: kind, Elem: "none", N: top, Dot: dot(3, 1, 0)}
		checkField(t, []api.Item{none}, "k", "f", api.Val{})
		l := slices.Concat([]api.Item{none}, elems("x"), []api.Item{none}, regs("y"), counts(3), []api.Item{none})
		checkField(t, l, "k", "f", api.Val{Elems: []string{"x"}, Regs: []string{"y"}, Total: 3})
	}
}

func TestP11_1FieldEachTextOnce(t *testing.T) {
	checkField(t, elems("x", "x"), "k", "f", api.Val{Elems: []string{"x"}})
	checkField(t, elems("x", "y", "x", "y", "x"), "k", "f", api.Val{Elems: []string{"x", "y"}})
	checkField(t, regs("x", "x"), "k", "f", api.Val{Regs: []string{"x"}})
	checkField(t, regs("y", "x", "y", "x", "x"), "k", "f", api.Val{Regs: []string{"x", "y"}})
	// One text under two kinds is one of each.
	checkField(t, append(elems("x", "x"), regs("x", "x")...), "k", "f", api.Val{Elems: []string{"x"}, Regs: []string{"x"}})
	checkField(t, append(regs("y", "x"), elems("x", "z")...), "k", "f", api.Val{Elems: []string{"x", "z"}, Regs: []string{"x", "y"}})
	// An empty text is one like others.
	checkField(t, elems(""), "k", "f", api.Val{Elems: []string{""}})
	checkField(t, regs(""), "k", "f", api.Val{Regs: []string{""}})
	checkField(t, append(elems("x", "", ""), regs("", "\x00", "")...), "k", "f", api.Val{Elems: []string{"", "x"}, Regs: []string{"", "\x00"}})
	// Numbers are counted each time.
	checkField(t, counts(4, 4, 4), "k", "f", api.Val{Total: 12})
}

func TestP11_1FieldRises(t *testing.T) {
	all := texts()
	for i, s := range all {
		for _, u := range all[i+1:] {
			want := []string{s, u}
			for _, l := range [][]string{{s, u}, {u, s}, {u, s, u, s}, {s, s, u}} {
				checkField(t, elems(l...), "k", "f", api.Val{Elems: want})
				checkField(t, regs(l...), "k", "f", api.Val{Regs: want})
			}
		}
	}
	for seed := range uint32(100) {
		next := chance(seed)
		l := slices.Concat(all, all)
		for i := range l {
			j := i + next(len(l)-i)
			l[i], l[j] = l[j], l[i]
		}
		checkField(t, elems(l...), "k", "f", api.Val{Elems: all})
		checkField(t, regs(l...), "k", "f", api.Val{Regs: all})
		checkField(t, append(elems(l[:9]...), regs(l[9:]...)...), "k", "f", api.Val{Elems: onceOf(l[:9]), Regs: onceOf(l[9:])})
	}
}

func TestP11_1FieldByPartsOfOtherKinds(t *testing.T) {
	// The Elem of a count and the N of the others tell nothing, so nothing of them runs over either.
	d := dot(0, 1, 0)
	odd := func(kind int, e string, n int64) api.Item {
		return api.Item{Key: "k", Field: "f", Kind: kind, Elem: e, N: n, Dot: d}
	}
	checkField(t, []api.Item{odd(3, "x", 4)}, "k", "f", api.Val{Total: 4})
	checkField(t, []api.Item{odd(1, "x", 4)}, "k", "f", api.Val{Elems: []string{"x"}})
	checkField(t, []api.Item{odd(2, "x", 4)}, "k", "f", api.Val{Regs: []string{"x"}})
	l := []api.Item{odd(1, "x", top), odd(1, "y", top), odd(2, "x", bottom), odd(2, "z", bottom), odd(3, "c", -1), odd(0, "n", top), odd(4, "n", top)}
	checkField(t, l, "k", "f", api.Val{Elems: []string{"x", "y"}, Regs: []string{"x", "z"}, Total: -1})
	checkField(t, append(l, odd(3, "c", top)), "k", "f", api.Val{Elems: []string{"x", "y"}, Regs: []string{"x", "z"}, Total: top - 1})
}

func TestP11_1FieldOfAnyItems(t *testing.T) {
	// Two of one Dot both tell.
	d := dot(0, 1, 0)
	l := []api.Item{elem("k", "f", "x", d), elem("k", "f", "w", d), reg("k", "f", "x", d), count("k", "f", 3, d), count("k", "f", 3, d)}
	checkField(t, l, "k", "f", api.Val{Elems: []string{"w", "x"}, Regs: []string{"x"}, Total: 6})
	// Dots that none may have tell, too.
	for _, n := range []int{math.MinInt, -1, 0, 8, 1<<30 + 1, math.MaxInt} {
		checkField(t, []api.Item{elem("k", "f", "x", dot(n, n, n)), count("k", "f", 9, dot(n, n, n))}, "k", "f", api.Val{Elems: []string{"x"}, Total: 9})
	}
	// So do keys, fields and Elems that may not be.
	for _, s := range texts() {
		for _, u := range texts() {
			l := []api.Item{elem(s, u, "x", d), elem("k", "f", s, d), reg("k", "f", u, d), count(s, u, 5, d)}
			checkField(t, l, s, u, api.Val{Elems: []string{"x"}, Total: 5})
			checkField(t, l, "k", "f", api.Val{Elems: []string{s}, Regs: []string{u}})
			checkFields(t, l, s, []string{u})
			if s != u {
				checkField(t, l, u, s, api.Val{})
			}
		}
	}
	long := strings.Repeat("long", 1<<16)
	checkField(t, []api.Item{elem(long, long, long, d), elem(long, long[1:], "x", d)}, long, long, api.Val{Elems: []string{long}})
}

func TestP11_1FieldTotalAtTheEnds(t *testing.T) {
	for _, c := range []struct {
		l     []int64
		total int64
		over  bool
	}{
		{[]int64{0}, 0, false}, {[]int64{-3}, -3, false}, {[]int64{-3, 3}, 0, false}, {[]int64{-3, -4}, -7, false},
		{[]int64{top}, top, false}, {[]int64{top - 1, 1}, top, false}, {[]int64{top, 0}, top, false}, {[]int64{top, 1}, 0, true}, {[]int64{top - 1, 2}, 0, true}, {[]int64{top - 1, 0}, top - 1, false},
		{[]int64{bottom}, bottom, false}, {[]int64{bottom + 1, -1}, bottom, false}, {[]int64{bottom, 0}, bottom, false}, {[]int64{bottom, -1}, 0, true}, {[]int64{bottom, bottom}, 0, true}, {[]int64{bottom, 1}, bottom + 1, false},
		{[]int64{top, top}, 0, true}, {[]int64{1 << 62, 1 << 62}, 0, true}, {[]int64{-1 << 62, -1 << 62}, bottom, false}, {[]int64{top, top, 2}, 0, true}, {[]int64{top, bottom}, -1, false},
		// Some of them together are too great, and all together are not.
		{[]int64{top, 1, -5}, top - 4, false}, {[]int64{top, 1, -1}, top, false}, {[]int64{bottom, -1, 1}, bottom, false}, {[]int64{top, top, bottom, bottom, 2}, 0, false}, {[]int64{top, top, bottom, bottom, 1, 0}, -1, false},
		{[]int64{top, top, bottom}, top - 1, false}, {[]int64{top, top, bottom, 1}, top, false}, {[]int64{top, top, bottom, 2}, 0, true}, {[]int64{bottom, bottom, top}, 0, true}, {[]int64{bottom, bottom, top, 1}, bottom, false},
	} {
		for _, l := range turns(c.l) {
			checkField(t, counts(l...), "k", "f", api.Val{Total: c.total, Over: c.over})
			// What runs over leaves the field's other parts as they are.
			checkField(t, slices.Concat(elems("x"), counts(l...), regs("y")), "k", "f", api.Val{Elems: []string{"x"}, Regs: []string{"y"}, Total: c.total, Over: c.over})
			// Counts of other fields don't count.
			other := counts(l...)
			for i := range other {
				other[i].Field = "g"
			}
			checkField(t, slices.Concat(other, counts(8)), "k", "f", api.Val{Total: 8})
		}
	}
}

func TestP11_1FieldTotalOfEach(t *testing.T) {
	for _, numbers := range rows(3, edges()...) {
		l := counts(numbers...)
		checkField(t, l, "k", "f", fieldOf(l, "k", "f"))
	}
	// Numbers so many times that a sum of 64 bits comes round to 0.
	for _, n := range []int{2, 4, 1 << 10, 1 << 16} {
		for _, x := range []int64{1 << 62, -1 << 62, bottom} {
			l := counts(slices.Repeat([]int64{x}, n)...)
			checkField(t, l, "k", "f", fieldOf(l, "k", "f"))
		}
	}
}

func TestP11_1FieldsKnown(t *testing.T) {
	d := dot(0, 1, 0)
	l := []api.Item{
		elem("a", "g", "x", d), reg("a", "f", "x", d), count("a", "", 3, d), elem("b", "h", "x", d), elem("a", "g", "y", d), count("a", "f", 0, d),
		{Key: "a", Field: "none"}, {Key: "b", Field: "Z", Kind: 9, Dot: d},
	}
	checkFields(t, l, "a", []string{"", "f", "g", "none"})
	checkFields(t, l, "b", []string{"Z", "h"})
	checkFields(t, l, "c", nil)
	checkFields(t, l, "", nil)
	checkFields(t, l, "ab", nil)
	checkFields(t, l, "A", nil)
	checkFields(t, nil, "a", nil)
	checkFields(t, []api.Item{}, "", nil)
	checkFields(t, l[2:3], "a", []string{""})
	checkFields(t, []api.Item{{}}, "", []string{""})
	checkFields(t, []api.Item{{}, {}, {}}, "", []string{""})
}

func TestP11_1FieldsByKinds(t *testing.T) {
	for _, kind := range append(kindsThatAreNone(), 1, 2, 3) {
		x := api.Item{Key: "k", Field: "f", Kind: kind}
		checkFields(t, []api.Item{x}, "k", []string{"f"})
		y := x
		y.Field, y.Kind = "g", 1
		z := x
		z.Kind = 3
		checkFields(t, []api.Item{y, x, z, y, x}, "k", []string{"f", "g"})
	}
}

func TestP11_1FieldsRise(t *testing.T) {
	all := texts()
	for seed := range uint32(100) {
		next := chance(seed)
		var l []api.Item
		for _, key := range []string{"a", "", "b"} {
			for _, s := range all {
				for range 1 + next(3) {
					l = append(l, api.Item{Key: key, Field: s, Kind: next(5), Elem: all[next(len(all))], Dot: dot(next(3), next(3), next(3))})
				}
			}
		}
		for i := range l {
			j := i + next(len(l)-i)
			l[i], l[j] = l[j], l[i]
		}
		for _, key := range []string{"a", "", "b"} {
			checkFields(t, l, key, all)
		}
		checkFields(t, l, "c", nil)
	}
	for i, s := range all {
		for _, u := range all[i+1:] {
			x, y := api.Item{Key: "k", Field: s}, api.Item{Key: "k", Field: u}
			checkFields(t, []api.Item{x, y}, "k", []string{s, u})
			checkFields(t, []api.Item{y, x}, "k", []string{s, u})
		}
	}
}

func TestP11_1OfEach(t *testing.T) {
	for _, l := range rows(4, few()...) {
		checkAll(t, l, []string{"a", "", "b"}, []string{"", "a", "b"})
	}
	for seed := range uint32(2000) {
		next := chance(seed)
		l := some(next(40), next)
		checkAll(t, l, someTexts(), someTexts())
	}
}

// vals are fields that differ in this and that.
func vals() []api.Val {
	lists := [][]string{nil, {}, {""}, {"", ""}, {"x"}, {"y"}, {"x", "y"}, {"y", "x"}, {"x", "y", "z"}, {"x", "x"}, {"xy"}, {"x", ""}, {"", "x"}, {"X"}, {"x\x00"}}
	var r []api.Val
	for _, elems := range lists {
		for _, regs := range lists {
			for _, total := range []int64{0, 1, -1, 1 << 32, top, bottom} {
				r = append(r, api.Val{Elems: elems, Regs: regs, Total: total}, api.Val{Elems: elems, Regs: regs, Total: total, Over: true})
			}
		}
	}
	return r
}

func TestP11_2EmptyKnown(t *testing.T) {
	checkEmpty(t, api.Val{}, true)
	checkEmpty(t, api.Val{Elems: []string{}}, true)
	checkEmpty(t, api.Val{Regs: []string{}}, true)
	checkEmpty(t, api.Val{Elems: []string{}, Regs: []string{}}, true)
	checkEmpty(t, api.Val{Elems: []string{"x", "y"}[:0], Regs: []string{"x"}[1:]}, true)
	// Each of its four parts alone.
	checkEmpty(t, api.Val{Elems: []string{"x"}}, false)
	checkEmpty(t, api.Val{Elems: []string{""}}, false)
	checkEmpty(t, api.Val{Regs: []string{"x"}}, false)
	checkEmpty(t, api.Val{Regs: []string{""}}, false)
	checkEmpty(t, api.Val{Over: true}, false)
	for _, n := range edges() {
		checkEmpty(t, api.Val{Total: n}, n == 0)
	}
	for bit := range 64 {
		checkEmpty(t, api.Val{Total: 1 << bit}, false)
	}
	// Of items: a counter whose parts make 0, and items of no kind, are nothing.
	checkEmpty(t, Field(counts(4, -4), "k", "f"), true)
	checkEmpty(t, Field(counts(top, 1), "k", "f"), false)
	checkEmpty(t, Field(elems(""), "k", "f"), false)
	checkEmpty(t, Field(regs(""), "k", "f"), false)
	checkEmpty(t, Field([]api.Item{{Key: "k", Field: "f", Elem: "x", N: 3}}, "k", "f"), true)
}

func TestP11_2EmptyOfEach(t *testing.T) {
	for _, v := range vals() {
		checkEmpty(t, v, len(v.Elems)+len(v.Regs) == 0 && v.Total == 0 && !v.Over)
		checkSame(t, v, api.Val{}, Empty(v))
		checkSame(t, api.Val{}, v, Empty(v))
	}
}

func TestP11_2SameKnown(t *testing.T) {
	v := api.Val{Elems: []string{"x", "y"}, Regs: []string{"p", "q"}, Total: 5}
	checkSame(t, v, v, true)
	checkSame(t, api.Val{}, api.Val{}, true)
	checkSame(t, v, api.Val{Elems: []string{"x", "y"}, Regs: []string{"p", "q"}, Total: 5}, true)
	lists := [][]string{nil, {}, {"x"}, {"p"}, {"x", "y", "z"}, {"p", "q", "r"}, {"y", "x"}, {"q", "p"}, {"x", "x"}, {"x", "z"}, {"w", "y"}, {"x", "y", ""}, {"", "x", "y"}, {"xy"}, {"X", "y"}}
	for _, l := range lists {
		other := v
		other.Elems = l
		checkSame(t, v, other, false)
		checkSame(t, other, v, false)
		other = v
		other.Regs = l
		checkSame(t, v, other, false)
		checkSame(t, other, v, false)
	}
	for _, n := range append(edges(), 4, 5, 6, 5+1<<32) {
		other := v
		other.Total = n
		checkSame(t, v, other, n == 5)
		checkSame(t, other, v, n == 5)
	}
	other := v
	other.Over = true
	checkSame(t, v, other, false)
	checkSame(t, other, v, false)
	checkSame(t, other, other, true)
	// Elems are no Regs.
	checkSame(t, api.Val{Elems: []string{"x"}}, api.Val{Regs: []string{"x"}}, false)
	// A list is nil or empty alike, and what stands behind its end tells nothing.
	checkSame(t, api.Val{}, api.Val{Elems: []string{}, Regs: []string{}}, true)
	checkSame(t, api.Val{Elems: []string{}}, api.Val{Regs: []string{}}, true)
	checkSame(t, api.Val{Elems: []string{"x", "y"}[:1]}, api.Val{Elems: []string{"x", "z"}[:1]}, true)
	checkSame(t, api.Val{Regs: []string{"x", "y"}[:0]}, api.Val{}, true)
}

func TestP11_2SameOfEach(t *testing.T) {
	all := vals()
	looks := make([]string, len(all))
	for i, v := range all {
		looks[i] = fmt.Sprintf("%q %q %d %t", v.Elems, v.Regs, v.Total, v.Over)
	}
	for i, a := range all {
		for j, b := range all {
			if Same(a, b) != (looks[i] == looks[j]) {
				t.Fatalf("Same(%s, %s) = %t", looks[i], looks[j], Same(a, b))
			}
		}
	}
}

func TestP11_3NoOrder(t *testing.T) {
	for seed := range uint32(300) {
		next := chance(seed)
		l := some(next(6), next)
		for _, turned := range turns(l) {
			for _, key := range []string{"a", "", "b"} {
				checkFields(t, turned, key, Fields(l, key))
				checkField(t, turned, key, "a", Field(l, key, "a"))
				checkField(t, turned, key, "", Field(l, key, ""))
			}
		}
	}
	// Of many items: in order, the other way round, and in between.
	for seed := range uint32(300) {
		next := chance(seed)
		l := some(60, next)
		back := slices.Clone(l)
		slices.Reverse(back)
		rising := slices.Clone(l)
		slices.SortFunc(rising, func(a, b api.Item) int {
			if item.Less(a, b) {
				return -1
			}
			if item.Less(b, a) {
				return 1
			}
			return 0
		})
		cut := next(len(l))
		for _, turned := range [][]api.Item{back, rising, slices.Concat(l[cut:], l[:cut])} {
			for _, key := range someTexts() {
				checkFields(t, turned, key, Fields(l, key))
				for _, field := range someTexts() {
					checkField(t, turned, key, field, Field(l, key, field))
					checkSame(t, Field(turned, key, field), Field(l, key, field), true)
				}
			}
		}
	}
}

func TestP11_3ItsOwnItemsAlone(t *testing.T) {
	for seed := range uint32(1000) {
		next := chance(seed)
		l := some(next(40), next)
		for _, key := range someTexts() {
			of := item.Of(l, key)
			checkFields(t, of, key, Fields(l, key))
			for _, field := range someTexts() {
				want := Field(l, key, field)
				// The key's items alone, and the field's alone, say the same; those of all others say nothing.
				checkField(t, of, key, field, want)
				own, others := []api.Item{}, []api.Item{}
				for _, x := range l {
					if x.Key == key && x.Field == field {
						own = append(own, x)
					} else {
						others = append(others, x)
					}
				}
				checkField(t, own, key, field, want)
				checkField(t, slices.Concat(others, own, others), key, field, want)
				checkField(t, others, key, field, api.Val{})
			}
		}
	}
}

func TestP11_3OneMoreShowsInItsOwnField(t *testing.T) {
	for seed := range uint32(1000) {
		next := chance(seed)
		l := some(next(30), next)
		x := some(1, next)[0]
		more := slices.Insert(slices.Clone(l), next(len(l)+1), x)
		for _, key := range someTexts() {
			if key != x.Key {
				checkFields(t, more, key, Fields(l, key))
			} else {
				checkFields(t, more, key, onceOf(append(Fields(l, key), x.Field)))
			}
			for _, field := range someTexts() {
				if key != x.Key || field != x.Field {
					checkField(t, more, key, field, Field(l, key, field))
				}
			}
		}
		had, has := Field(l, x.Key, x.Field), Field(more, x.Key, x.Field)
		if x.Kind != api.Elem && !slices.Equal(had.Elems, has.Elems) || x.Kind != api.Reg && !slices.Equal(had.Regs, has.Regs) {
			t.Fatalf("%+v made of %s %s", x, short(had), short(has))
		}
		if x.Kind == api.Elem && !slices.Contains(has.Elems, x.Elem) || x.Kind == api.Reg && !slices.Contains(has.Regs, x.Elem) {
			t.Fatalf("%+v does not show in %s", x, short(has))
		}
		if x.Kind != api.Count && (had.Total != has.Total || had.Over != has.Over) {
			t.Fatalf("%+v made of %s %s", x, short(had), short(has))
		}
		if x.Kind == api.Count && !had.Over && !has.Over && had.Total+x.N != has.Total {
			t.Fatalf("%+v made of %s %s", x, short(had), short(has))
		}
	}
}

func TestP11_3FieldsAreThoseThatHaveItems(t *testing.T) {
	for seed := range uint32(500) {
		next := chance(seed)
		l := some(next(30), next)
		for _, key := range append(someTexts(), "c") {
			fields := Fields(l, key)
			for _, field := range append(someTexts(), "c") {
				has := slices.ContainsFunc(l, func(x api.Item) bool { return x.Key == key && x.Field == field })
				if slices.Contains(fields, field) != has {
					t.Fatalf("Fields(%s, %q) = %q; %q: %t", short(l), key, fields, field, has)
				}
				if !has {
					checkEmpty(t, Field(l, key, field), true)
				}
			}
			if (len(fields) > 0) != slices.Contains(item.Keys(l), key) {
				t.Fatalf("Fields(%s, %q) = %q", short(l), key, fields)
			}
		}
	}
}

// spare is a list that has more behind it as its spare room, and the whole of it.
func spare[T any](l []T, more ...T) (whole, laid []T) {
	whole = slices.Concat(l, more)
	return whole, whole[:len(l)]
}

// turn changes all of an answer, spare room and all.
func turn(answer []string) {
	for i := range answer[:cap(answer)] {
		answer[:cap(answer)][i] = "turned"
	}
}

func TestP11_1NothingIsChangedOrShared(t *testing.T) {
	lists := append(rows(3, few()...), few())
	for seed := range uint32(200) {
		lists = append(lists, some(int(seed%50), chance(seed)))
	}
	more := append(few(), some(20, chance(7))...)
	for _, list := range lists {
		whole, l := spare(list, more...)
		before := slices.Clone(whole)
		for _, key := range []string{"a", "", "b"} {
			fields := Fields(l, key)
			if !slices.Equal(fields, fieldsOf(list, key)) {
				t.Fatalf("spare room tells: Fields of %s, %q is %q", short(list), key, fields)
			}
			turn(fields)
			for _, field := range []string{"a", ""} {
				v, again := Field(l, key, field), Field(l, key, field)
				if !sameVal(v, fieldOf(list, key, field)) {
					t.Fatalf("spare room tells: Field of %s, %q, %q is %s", short(list), key, field, short(v))
				}
				// The two lists of an answer are apart, spare room and all, and so are two answers.
				turn(v.Elems)
				if !slices.Equal(v.Regs, again.Regs) {
					t.Fatalf("two lists of an answer share: %q", v.Regs)
				}
				turn(v.Regs)
				checkField(t, list, key, field, again)
				turn(again.Regs)
				if !slices.Equal(again.Elems, fieldOf(list, key, field).Elems) {
					t.Fatalf("two lists of an answer share: %q", again.Elems)
				}
			}
		}
		if !slices.Equal(whole, before) {
			t.Fatalf("what was handed in, or its spare room, was changed, or is shared: %s; it was %s", short(whole), short(before))
		}
	}
}

func TestP11_2NothingIsChanged(t *testing.T) {
	for _, elems := range [][]string{nil, {}, {"y"}, {"y", "x"}, {"x", "x", "", "z"}} {
		for _, regs := range [][]string{nil, {}, {"q"}, {"q", "p", "p"}} {
			wholeElems, laidElems := spare(elems, "b", "a", "")
			wholeRegs, laidRegs := spare(regs, "d", "c", "")
			a, b := slices.Clone(wholeElems), slices.Clone(wholeRegs)
			v := api.Val{Elems: laidElems, Regs: laidRegs, Total: 4}
			Empty(v)
			checkSame(t, v, api.Val{Elems: elems, Regs: regs, Total: 4}, true)
			checkSame(t, api.Val{Elems: laidRegs, Regs: laidElems}, v, false)
			if !slices.Equal(wholeElems, a) || !slices.Equal(wholeRegs, b) {
				t.Fatalf("Empty or Same changed %q to %q, or %q to %q", a, wholeElems, b, wholeRegs)
			}
		}
	}
}

func TestP11_1SameEachTime(t *testing.T) {
	for seed := range uint32(5) {
		l := some(300, chance(seed))
		want, fields := Field(l, "a", ""), Fields(l, "a")
		for range 20 {
			checkField(t, l, "a", "", want)
			checkFields(t, l, "a", fields)
		}
	}
}

func TestP11_1LongLists(t *testing.T) {
	const n = 1 << 17
	names := make([]string, n)
	var l []api.Item
	for i := range names {
		names[i] = fmt.Sprintf("%07d", i)
	}
	for i := n - 1; i >= 0; i-- {
		d, part := dot(i%8, i/8+1, 0), int64(top)
		if i < n/2 {
			part = bottom
		}
		l = append(l, elem("k", "f", names[i], d), reg("k", "f", names[i], d), count("k", "f", part, d), elem("q", names[i], "x", d))
	}
	want := api.Val{Elems: names, Regs: names, Total: -n / 2}
	checkField(t, l, "k", "f", want)
	checkFields(t, l, "q", names)
	checkFields(t, l, "k", []string{"f"})
	checkField(t, l, "q", names[5], api.Val{Elems: []string{"x"}})
	checkSame(t, Field(l, "k", "f"), want, true)
	want.Elems = slices.Clone(names)
	want.Elems[n-1] = "x"
	checkSame(t, Field(l, "k", "f"), want, false)
	// All of one text.
	same := slices.Repeat(elems("x"), n)
	checkField(t, same, "k", "f", api.Val{Elems: []string{"x"}})
	checkFields(t, same, "k", []string{"f"})
	// All of it counts.
	checkField(t, counts(slices.Repeat([]int64{-3}, n)...), "k", "f", api.Val{Total: -3 * n})
}
