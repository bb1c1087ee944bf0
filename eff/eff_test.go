package eff

import (
	"fmt"
	"math"
	"regexp"
	"slices"
	"strings"
	"testing"

	"buttery/api"
	"buttery/item"
	"buttery/vec"
	"buttery/zone"
)

// letters are all bytes that may stand in a key.
const letters = "/0123456789abcdefghijklmnopqrstuvwxyz"

// keyForm and fieldForm are how the document tells a key and a prefix.
var (
	keyForm   = regexp.MustCompile(`\A[a-z0-9/]{1,16}\z`)
	fieldForm = regexp.MustCompile(`\A[a-z0-9/]{0,16}\z`)
)

// texts and ints are values of the parts of effects: such as may be, and such as may not.
func texts() []string {
	return []string{
		"", "\x00", " ", "/", "0", "A", "a", "a\x00", "a/b", "a0", "z", "é", "\xff", "{", "`", ":",
		strings.Repeat("a", 16), strings.Repeat("a", 17), strings.Repeat("a", 32), strings.Repeat("a", 33),
	}
}

func ints() []int {
	return []int{math.MinInt, -1 << 40, -1<<32 + 1, -8, -2, -1, 0, 1, 2, 3, 4, 5, 6, 7, 8, 9, 63, 64, 65, 1<<30 - 1, 1 << 30, 1<<30 + 1, 1 << 31, 1 << 32, 1<<32 + 1, math.MaxInt}
}

// dot is the dot of those parts.
func dot(node, seq, at int) api.Dot { return api.Dot{Node: node, Seq: seq, At: at} }

// add, put and inc are effects that make an item of that kind; del is one that makes none.
func add(at int, key, elem string, drops ...api.Dot) api.Eff {
	return api.Eff{At: at, Key: key, Kind: api.Elem, Elem: elem, Drops: drops}
}

func put(at int, key, elem string, drops ...api.Dot) api.Eff {
	return api.Eff{At: at, Key: key, Kind: api.Reg, Elem: elem, Drops: drops}
}

func inc(at int, key string, n int64, drops ...api.Dot) api.Eff {
	return api.Eff{At: at, Key: key, Kind: api.Count, N: n, Drops: drops}
}

func del(at int, key string, drops ...api.Dot) api.Eff {
	return api.Eff{At: at, Key: key, Drops: drops}
}

// kinds are an effect of each kind, formed, Kind 0 too.
func kinds() []api.Eff {
	drop := dot(0, 1, 0)
	l := []api.Eff{add(4, "k", "e", drop), put(4, "k", "r", drop), inc(4, "k", 9, drop), del(4, "k", drop)}
	for i := range l {
		l[i].Field = "f"
	}
	return l
}

// elem is an element under a key.
func elem(key, e string, d api.Dot) api.Item {
	return api.Item{Key: key, Kind: api.Elem, Elem: e, Dot: d}
}

// itemOf is the item that an effect makes.
func itemOf(node, seq int, e api.Eff) api.Item {
	return api.Item{Key: e.Key, Field: e.Field, Kind: e.Kind, Elem: e.Elem, N: e.N, Dot: dot(node, seq, e.At)}
}

// ahead tells whether dot a stands ahead of dot b.
func ahead(a, b api.Dot) bool {
	if a.Node != b.Node {
		return a.Node < b.Node
	}
	if a.Seq != b.Seq {
		return a.Seq < b.Seq
	}
	return a.At < b.At
}

// mayBe is what the document says of a dot that an item may have.
func mayBe(d api.Dot) bool {
	return 0 <= d.Node && d.Node <= 7 && 1 <= d.Seq && d.Seq <= 1073741824 && 0 <= d.At && d.At <= 7
}

// isFormed is what the document says of an effect that is formed.
func isFormed(node, seq int, e api.Eff) bool {
	drops := len(e.Drops) <= 64
	for i, d := range e.Drops {
		drops = drops && mayBe(d) && (i == 0 || ahead(e.Drops[i-1], d))
	}
	named := keyForm.MatchString(e.Key) && fieldForm.MatchString(e.Field) && mayBe(dot(node, seq, e.At))
	switch e.Kind {
	case 0:
		return drops && named && e.Elem == "" && e.N == 0 && len(e.Drops) >= 1
	case 1, 2:
		return drops && named && len(e.Elem) <= 32 && e.N == 0
	case 3:
		return drops && named && e.Elem == ""
	}
	return false
}

// isRight is what the document says of effects that are right.
func isRight(node, seq int, l []api.Eff) bool {
	for i, e := range l {
		if !isFormed(node, seq, e) || i > 0 && e.At <= l[i-1].At {
			return false
		}
		for at := e.At; at < 8; at++ {
			if slices.Contains(e.Drops, dot(node, seq, at)) {
				return false
			}
		}
	}
	return true
}

// doOf is what the document says of Do, word by word.
func doOf(items []api.Item, node, seq int, l []api.Eff) []api.Item {
	r := slices.Clone(items)
	for _, e := range l {
		r = slices.DeleteFunc(slices.Clone(r), func(x api.Item) bool { return slices.Contains(e.Drops, x.Dot) })
		if e.Kind != 0 {
			r = append(r, itemOf(node, seq, e))
		}
		r = item.Norm(r)
	}
	return r
}

// onlyOf is what the document says of Only.
func onlyOf(l []api.Eff, z []string) []api.Eff {
	var r []api.Eff
	for _, e := range l {
		if zone.Covers(z, e.Key) {
			r = append(r, e)
		}
	}
	return r
}

// heardOf is what the document says of Heard.
func heardOf(l []api.Eff, node, seq int, v api.Vec) bool {
	for _, e := range l {
		for _, d := range e.Drops {
			if !vec.Has(v, d) && (d.Node != node || d.Seq != seq) {
				return false
			}
		}
	}
	return true
}

// sameEff tells whether two effects are the same, Drops that are nil like empty ones.
func sameEff(a, b api.Eff) bool {
	return a.At == b.At && itemOf(0, 1, a) == itemOf(0, 1, b) && slices.Equal(a.Drops, b.Drops)
}

// sameEffs tells whether two lists have the same effects.
func sameEffs(a, b []api.Eff) bool { return slices.EqualFunc(a, b, sameEff) }

// short tells a value, no longer than one can read.
func short(v any) string {
	s := fmt.Sprintf("%+q", fmt.Sprint(v))
	if len(s) > 1000 {
		return s[:1000] + ".."
	}
	return s
}

func checkFormed(t *testing.T, node, seq int, e api.Eff, want bool) {
	t.Helper()
	if got := Formed(node, seq, e); got != want {
		t.Fatalf("Formed(%d, %d, %s) = %t; want %t", node, seq, short(e), got, want)
	}
}

func checkRight(t *testing.T, node, seq int, l []api.Eff, want bool) {
	t.Helper()
	if got := Right(node, seq, l); got != want {
		t.Fatalf("Right(%d, %d, %s) = %t; want %t", node, seq, short(l), got, want)
	}
}

func checkDo(t *testing.T, items []api.Item, node, seq int, l []api.Eff, want []api.Item) {
	t.Helper()
	if got := Do(items, node, seq, l); !slices.Equal(got, want) {
		t.Fatalf("Do(%s, %d, %d, %s) = %s; want %s", short(items), node, seq, short(l), short(got), short(want))
	}
}

func checkOnly(t *testing.T, l []api.Eff, z []string, want []api.Eff) {
	t.Helper()
	if got := Only(l, z); !sameEffs(got, want) {
		t.Fatalf("Only(%s, %s) = %s; want %s", short(l), short(z), short(got), short(want))
	}
}

func checkHeard(t *testing.T, l []api.Eff, node, seq int, v api.Vec, want bool) {
	t.Helper()
	if got := Heard(l, node, seq, v); got != want {
		t.Fatalf("Heard(%s, %d, %d, %v) = %t; want %t", short(l), node, seq, v, got, want)
	}
}

// rows are all lists of at most so many of these.
func rows[T any](most int, of ...T) [][]T {
	l := [][]T{nil}
	for from := 0; most > 0; most-- {
		end := len(l)
		for _, row := range l[from:end] {
			for _, x := range of {
				l = append(l, append(slices.Clone(row), x))
			}
		}
		from = end
	}
	return l
}

// chance answers numbers below what it is asked, always the same ones for a seed.
func chance(seed uint32) func(below int) int {
	state := seed*2654435761 + 12345
	return func(below int) int {
		state = state*1664525 + 1013904223
		return int(state >> 8 % uint32(below))
	}
}

// rising are the first n dots of a row that rises by all parts of a dot.
func rising(n int) []api.Dot {
	l := make([]api.Dot, n)
	for i := range l {
		l[i] = dot(i/16, 1+i/4%4, i%4*2)
	}
	return l
}

// fewDots are dots that differ in one part and in more, some of them such as none may be.
func fewDots() []api.Dot {
	return []api.Dot{dot(0, 1, 0), dot(0, 1, 1), dot(0, 2, 0), dot(0, 2, 1), dot(1, 1, 0), dot(1, 1, 7), dot(7, 1<<30, 7), dot(0, 0, 0), dot(8, 1, 0)}
}

func TestP10_1FormedKnown(t *testing.T) {
	d, e := dot(0, 1, 0), dot(1, 1, 0)
	right := []api.Eff{
		add(0, "a", "y", d), add(0, "a", "y"), add(7, "a/b", ""), put(1, "/", "x y\x00\xff", d, e), put(0, "0", "é"), inc(0, "a", 0), inc(3, "a", -5, d),
		{Key: "a", Field: "f", Kind: 3, N: math.MinInt64}, {Key: "a", Field: "f/0", Drops: []api.Dot{d}}, del(0, "a", d), del(7, "a", d, e),
		// An effect that takes away what its own transaction makes is formed; it is Right that asks for more.
		add(0, "a", "y", e), add(0, "a", "y", dot(1, 1, 7)), del(0, "a", e),
	}
	for _, x := range right {
		checkFormed(t, 1, 1, x, true)
	}
	wrong := []api.Eff{
		{}, del(0, "a"), {Key: "a", Kind: 1, Elem: "x", N: 1}, {Key: "a", Elem: "x", Drops: []api.Dot{d}}, {Key: "a", N: 1, Drops: []api.Dot{d}}, {Key: "a", Kind: 3, Elem: "x"},
		{Key: "a", Kind: 4, Drops: []api.Dot{d}}, {Key: "a", Kind: -1, Drops: []api.Dot{d}}, add(0, "", "y", d), add(0, "A", "y", d), add(8, "a", "y", d), add(-1, "a", "y", d),
		del(0, "", d), del(8, "a", d), del(-1, "a", d), {Key: "a", Field: "F", Drops: []api.Dot{d}}, {Key: "a", Field: "F", Kind: 1, Drops: []api.Dot{d}},
		add(0, "a", "y", e, d), add(0, "a", "y", d, d), del(0, "a", e, d), add(0, "a", "y", api.Dot{}), add(0, "a", "y", dot(8, 1, 0)),
	}
	for _, x := range wrong {
		checkFormed(t, 1, 1, x, false)
	}
}

func TestP10_1FormedByHowManyDrops(t *testing.T) {
	for _, e := range kinds() {
		for n := range 129 {
			e.Drops = rising(n)
			checkFormed(t, 1, 1, e, n <= 64 && (n >= 1 || e.Kind != 0))
		}
		e.Drops = rising(128)[32:96]
		checkFormed(t, 1, 1, e, true)
		e.Drops = rising(128)[32:97]
		checkFormed(t, 1, 1, e, false)
		e.Drops = []api.Dot{}
		checkFormed(t, 1, 1, e, e.Kind != 0)
	}
}

func TestP10_1FormedByTheOrderOfDrops(t *testing.T) {
	for _, e := range kinds() {
		for _, e.Drops = range rows(4, fewDots()...) {
			checkFormed(t, 1, 1, e, isFormed(1, 1, e))
		}
		// Two that differ in one part alone, in two that tell against each other.
		rise := [][]api.Dot{
			{dot(1, 2, 3), dot(2, 2, 3)}, {dot(1, 2, 3), dot(1, 3, 3)}, {dot(1, 2, 3), dot(1, 2, 4)},
			{dot(1, 2, 3), dot(2, 1, 3)}, {dot(1, 2, 3), dot(2, 2, 2)}, {dot(1, 2, 3), dot(1, 3, 2)}, {dot(1, 1<<30, 7), dot(2, 1, 0)},
		}
		for _, e.Drops = range rise {
			checkFormed(t, 1, 1, e, true)
			e.Drops = []api.Dot{e.Drops[1], e.Drops[0]}
			checkFormed(t, 1, 1, e, false)
			e.Drops[1] = e.Drops[0]
			checkFormed(t, 1, 1, e, false)
		}
	}
}

func TestP10_1FormedByOneOfManyDrops(t *testing.T) {
	for _, e := range kinds() {
		for _, n := range []int{2, 3, 63, 64} {
			for i := range n {
				e.Drops = rising(n)
				e.Drops[i].At = 8
				checkFormed(t, 1, 1, e, false)
				e.Drops = slices.Insert(rising(n-1), i, rising(n)[i/2])
				checkFormed(t, 1, 1, e, false)
				if i > 0 {
					e.Drops = rising(n)
					e.Drops[i-1], e.Drops[i] = e.Drops[i], e.Drops[i-1]
					checkFormed(t, 1, 1, e, false)
				}
			}
		}
	}
}

func TestP10_1FormedByThePartsOfDrops(t *testing.T) {
	for _, e := range kinds() {
		for _, n := range ints() {
			for _, d := range []api.Dot{dot(n, 3, 4), dot(2, n, 4), dot(2, 3, n)} {
				e.Drops = []api.Dot{d}
				checkFormed(t, 1, 1, e, mayBe(d))
				for _, other := range []api.Dot{dot(0, 1, 0), dot(2, 3, 3), dot(2, 3, 5), dot(7, 1<<30, 7)} {
					e.Drops = []api.Dot{d, other}
					checkFormed(t, 1, 1, e, mayBe(d) && ahead(d, other))
					e.Drops = []api.Dot{other, d}
					checkFormed(t, 1, 1, e, mayBe(d) && ahead(other, d))
				}
			}
		}
		for node := range 8 {
			for _, seq := range []int{1, 1 << 30} {
				for at := range 8 {
					e.Drops = []api.Dot{dot(node, seq, at)}
					checkFormed(t, 1, 1, e, true)
				}
			}
		}
	}
}

func TestP10_1FormedByKeyAndField(t *testing.T) {
	for _, e := range kinds() {
		for n := range 60 {
			x := e
			x.Key = strings.Repeat("a/0", 20)[:n]
			checkFormed(t, 1, 1, x, n >= 1 && n <= 16)
			x = e
			x.Field = strings.Repeat("a/0", 20)[:n]
			checkFormed(t, 1, 1, x, n <= 16)
		}
		for b := range 256 {
			for at := range 3 {
				s := []byte("mmm")
				s[at] = byte(b)
				want := strings.IndexByte(letters, byte(b)) >= 0
				x := e
				x.Key = string(s)
				checkFormed(t, 1, 1, x, want)
				x = e
				x.Field = string(s)
				checkFormed(t, 1, 1, x, want)
			}
		}
	}
}

func TestP10_1FormedByKindElemAndN(t *testing.T) {
	for _, kind := range ints() {
		for n := range 40 {
			for _, number := range []int64{math.MinInt64, -1, 0, 1, 1 << 32, math.MaxInt64} {
				for drops := range 2 {
					e := api.Eff{At: 4, Key: "k", Field: "f", Kind: kind, Elem: strings.Repeat("\x00é", 20)[:n], N: number, Drops: rising(drops)}
					want := kind == 0 && n == 0 && number == 0 && drops == 1 || (kind == 1 || kind == 2) && n <= 32 && number == 0 || kind == 3 && n == 0
					checkFormed(t, 1, 1, e, want)
				}
			}
		}
	}
}

func TestP10_1FormedByItsDot(t *testing.T) {
	for _, e := range kinds() {
		for _, n := range ints() {
			checkFormed(t, n, 1, e, n >= 0 && n <= 7)
			checkFormed(t, 1, n, e, n >= 1 && n <= 1<<30)
			e.At = n
			checkFormed(t, 1, 1, e, n >= 0 && n <= 7)
			checkFormed(t, 8, 1, e, false)
			checkFormed(t, 7, 0, e, false)
			checkFormed(t, 7, 1<<30, e, n >= 0 && n <= 7)
			e.At = 4
		}
	}
}

// asked is what Formed is asked.
type asked struct {
	node, seq int
	e         api.Eff
}

// parts are the parts of what Formed is asked. Each tells how many values it tries, and sets x to the i-th.
func parts() []struct {
	n   int
	set func(x *asked, i int)
} {
	type part = struct {
		n   int
		set func(x *asked, i int)
	}
	n, s, drops := ints(), texts(), append(rows(2, fewDots()...), rising(64), rising(65))
	return []part{
		{len(n), func(x *asked, i int) { x.node = n[i] }},
		{len(n), func(x *asked, i int) { x.seq = n[i] }},
		{len(n), func(x *asked, i int) { x.e.At = n[i] }},
		{len(s), func(x *asked, i int) { x.e.Key = s[i] }},
		{len(s), func(x *asked, i int) { x.e.Field = s[i] }},
		{len(n), func(x *asked, i int) { x.e.Kind = n[i] }},
		{len(s), func(x *asked, i int) { x.e.Elem = s[i] }},
		{len(n), func(x *asked, i int) { x.e.N = int64(n[i]) }},
		{len(drops), func(x *asked, i int) { x.e.Drops = drops[i] }},
	}
}

func TestP10_1FormedOfEach(t *testing.T) {
	all := parts()
	for _, e := range kinds() {
		for i, p := range all {
			for _, q := range all[i+1:] {
				for j := range p.n {
					for k := range q.n {
						x := asked{1, 1, e}
						p.set(&x, j)
						q.set(&x, k)
						checkFormed(t, x.node, x.seq, x.e, isFormed(x.node, x.seq, x.e))
						l := []api.Eff{x.e}
						checkRight(t, x.node, x.seq, l, isRight(x.node, x.seq, l))
					}
				}
			}
		}
	}
}

func TestP10_1RightKnown(t *testing.T) {
	d := dot(0, 1, 0)
	right := [][]api.Eff{
		nil, {}, {add(0, "a", "x")}, {del(7, "a", d)}, {add(0, "a", "x", d), add(1, "a", "x", d, dot(1, 1, 0))}, {add(0, "a", "x"), del(1, "a", dot(1, 1, 0))},
		{add(1, "a", "x"), put(3, "b", "y", dot(1, 1, 1)), inc(7, "c", 5, dot(1, 1, 0), dot(1, 1, 6))},
	}
	for _, l := range right {
		checkRight(t, 1, 1, l, true)
	}
	wrong := [][]api.Eff{
		{{}}, {del(0, "a")}, {add(0, "a", "x"), add(0, "a", "y")}, {add(1, "a", "x"), add(0, "a", "y")}, {add(0, "a", "x"), {}}, {add(0, "a", "x"), del(1, "a")},
		{add(0, "a", "x", dot(1, 1, 0))}, {add(0, "a", "x", dot(1, 1, 1)), add(1, "a", "x")}, {add(0, "a", "x", dot(1, 1, 5))}, {add(0, "a", "x", d, dot(1, 1, 7))},
		{add(0, "a", "x"), del(1, "a", dot(1, 1, 0), dot(1, 1, 1))}, {add(7, "a", "x"), add(8, "a", "y")},
	}
	for _, l := range wrong {
		checkRight(t, 1, 1, l, false)
	}
	// Where there are no effects, there is none that isn't formed, whatever the transaction.
	for _, n := range ints() {
		checkRight(t, n, 1, nil, true)
		checkRight(t, 1, n, nil, true)
		checkRight(t, n, n, []api.Eff{}, true)
		checkRight(t, n, 1, []api.Eff{add(0, "a", "x")}, n >= 0 && n <= 7)
		checkRight(t, 1, n, []api.Eff{add(0, "a", "x")}, n >= 1 && n <= 1<<30)
	}
}

func TestP10_1RightByAt(t *testing.T) {
	for _, ats := range rows(4, -1, 0, 1, 2, 6, 7, 8) {
		l := make([]api.Eff, len(ats))
		want := true
		for i, at := range ats {
			l[i] = add(at, "a", "x")
			want = want && at >= 0 && at <= 7 && (i == 0 || at > ats[i-1])
		}
		checkRight(t, 1, 1, l, want)
	}
	var l []api.Eff
	for at := range 12 {
		l = append(l, put(at, "a", "x"))
		checkRight(t, 1, 1, l, at <= 7)
		checkRight(t, 1, 1, slices.Concat(l, l[:1]), false)
		checkRight(t, 1, 1, slices.Concat(l[:1], l), false)
	}
	// Gaps are no fault; Ats that fall are one.
	for mask := range 256 {
		l = nil
		for at := range 8 {
			if mask>>at&1 == 1 {
				l = append(l, inc(at, "a", 1))
			}
		}
		checkRight(t, 1, 1, l, true)
		back := slices.Clone(l)
		slices.Reverse(back)
		checkRight(t, 1, 1, back, len(l) < 2)
	}
}

func TestP10_1RightByOneThatIsNotFormed(t *testing.T) {
	wrong := []api.Eff{{}, del(0, "a"), add(0, "", "x"), add(0, "A", "x"), {Key: "a", Kind: 4}, inc(0, "a", 1, rising(65)...), put(0, "a", strings.Repeat("x", 33)), add(0, "a", "x", dot(0, 2, 0), dot(0, 1, 0))}
	for n := 1; n <= 8; n++ {
		for i := range n {
			for _, e := range wrong {
				var l []api.Eff
				for at := range n {
					l = append(l, add(at, "a", "x"))
				}
				checkRight(t, 1, 1, l, true)
				e.At = i
				l[i] = e
				checkRight(t, 1, 1, l, false)
			}
		}
	}
}

func TestP10_1RightByItsOwnDots(t *testing.T) {
	for at := range 8 {
		for node := range 3 {
			for seq := 1; seq <= 3; seq++ {
				for of := range 8 {
					d := dot(node, seq, of)
					want := node != 1 || seq != 2 || of < at
					for _, e := range []api.Eff{add(at, "a", "x", d), put(at, "a", "x", d), inc(at, "a", 1, d), del(at, "a", d)} {
						checkRight(t, 1, 2, []api.Eff{e}, want)
						// The same, where other effects stand ahead and behind, and other Drops.
						var l []api.Eff
						for other := range 8 {
							l = append(l, add(other, "b", "y"))
						}
						e.Drops = []api.Dot{dot(0, 1, 5), d, dot(7, 9, 0)}
						if !ahead(e.Drops[0], d) {
							e.Drops = e.Drops[1:]
						}
						l[at] = e
						checkRight(t, 1, 2, l, want)
						checkRight(t, 1, 2, l[:at+1], want)
						checkRight(t, 1, 2, l[at:], want)
					}
				}
			}
		}
	}
}

// fewEffs are effects that differ in this and that, many of them formed for 1 2, some that make and take away what others do.
func fewEffs() []api.Eff {
	return []api.Eff{
		add(0, "a", "x"),
		add(1, "a", "w", dot(1, 2, 0)),
		put(0, "a", "z", dot(0, 1, 0), dot(1, 1, 0)),
		del(1, "a/b", dot(0, 1, 0)),
		inc(2, "b", -4, dot(1, 2, 0), dot(1, 2, 1)),
		add(0, "", "\xff", dot(1, 2, 0)),
		{At: 1, Key: "A", Field: "F", Kind: 7, Elem: "e", N: 5, Drops: []api.Dot{dot(1, 2, 2), dot(0, 1, 0), dot(0, 1, 0)}},
		{},
		{At: -1, Key: "b", Kind: -1, Drops: []api.Dot{dot(1, 2, 1), {}}},
	}
}

// fewItems are items in no order, of which some have one Dot, and some a Dot that fewEffs make for 1 2.
func fewItems() []api.Item {
	return []api.Item{
		elem("b", "x", dot(0, 1, 0)), elem("a", "y", dot(1, 2, 0)), elem("a", "x", dot(0, 1, 0)), {Key: "a", Kind: api.Reg, Elem: "z", Dot: dot(1, 1, 0)},
		elem("a", "b", dot(1, 2, 1)), {Key: "c", Kind: api.Count, N: 3, Dot: dot(7, 1<<30, 7)}, {}, elem("a", "x", dot(0, 1, 0)),
	}
}

func TestP10_1RightOfEach(t *testing.T) {
	n := 0
	for _, l := range rows(4, fewEffs()...) {
		want := isRight(1, 2, l)
		checkRight(t, 1, 2, l, want)
		checkRight(t, 1, 1, l, isRight(1, 1, l))
		checkRight(t, 0, 1, l, isRight(0, 1, l))
		if want {
			n++
		}
	}
	if n < 10 {
		t.Fatalf("%d lists of effects are right", n)
	}
}

func TestP10_1LongLists(t *testing.T) {
	long := slices.Repeat([]api.Eff{add(0, "a", "x")}, 1<<18)
	checkRight(t, 1, 1, long, false)
	for i := range long {
		long[i].At = i
	}
	checkRight(t, 1, 1, long, false)
	e := add(0, strings.Repeat("a", 1<<20), "x")
	checkFormed(t, 1, 1, e, false)
	e = add(0, "a", strings.Repeat("a", 1<<20))
	checkFormed(t, 1, 1, e, false)
	e = add(0, "a", "x", slices.Repeat(rising(128), 1<<12)...)
	checkFormed(t, 1, 1, e, false)
	checkRight(t, 1, 1, slices.Repeat([]api.Eff{e}, 1<<12), false)
}

func TestP10_2DoKnown(t *testing.T) {
	x, y := elem("a", "x", dot(0, 1, 0)), elem("a", "y", dot(1, 1, 0))
	checkDo(t, []api.Item{x}, 1, 1, []api.Eff{add(0, "a", "y", x.Dot)}, []api.Item{y})
	checkDo(t, []api.Item{x}, 1, 1, []api.Eff{add(0, "a", "y")}, []api.Item{x, y})
	checkDo(t, []api.Item{y}, 0, 1, []api.Eff{add(0, "a", "x")}, []api.Item{x, y})
	checkDo(t, nil, 1, 1, []api.Eff{add(0, "a", "y", x.Dot)}, []api.Item{y})
	checkDo(t, []api.Item{x, y}, 2, 1, []api.Eff{del(0, "a", x.Dot)}, []api.Item{y})
	checkDo(t, []api.Item{x, y}, 2, 1, []api.Eff{del(0, "a", x.Dot, y.Dot)}, nil)
	checkDo(t, []api.Item{x, y}, 2, 1, []api.Eff{del(0, "a", dot(0, 1, 1), dot(0, 2, 0), dot(2, 1, 0))}, []api.Item{x, y})
	// All parts of what is made, of each kind.
	made := []api.Eff{{At: 2, Key: "a/b", Field: "f", Kind: 1, Elem: "e"}, {At: 4, Key: "a/b", Field: "f", Kind: 2, Elem: "r"}, {At: 7, Key: "a/b", Field: "g", Kind: 3, N: -9}}
	checkDo(t, nil, 5, 6, made, []api.Item{
		{Key: "a/b", Field: "f", Kind: 1, Elem: "e", Dot: dot(5, 6, 2)}, {Key: "a/b", Field: "f", Kind: 2, Elem: "r", Dot: dot(5, 6, 4)}, {Key: "a/b", Field: "g", Kind: 3, N: -9, Dot: dot(5, 6, 7)},
	})
	// Drops are told by dots alone, under whatever key they stand.
	checkDo(t, []api.Item{x, elem("b", "z", dot(0, 1, 1))}, 1, 1, []api.Eff{del(0, "c", dot(0, 1, 1))}, []api.Item{x})
}

func TestP10_2DoNoEffects(t *testing.T) {
	for _, items := range append(rows(3, fewItems()...), fewItems()) {
		checkDo(t, items, 1, 1, nil, items)
		checkDo(t, items, -1, 0, []api.Eff{}, items)
	}
}

func TestP10_2DoLeavesTheOneForm(t *testing.T) {
	// An effect that makes nothing and takes nothing away leaves the list in its one form; so does one that only takes away.
	items := fewItems()
	checkDo(t, items, 1, 1, []api.Eff{{}}, item.Norm(items))
	checkDo(t, items, 1, 1, []api.Eff{{}, {}, {}}, item.Norm(items))
	checkDo(t, items, 1, 1, []api.Eff{del(0, "a", dot(1, 1, 0))}, []api.Item{items[6], items[2], items[1], items[4], items[5]})
	checkDo(t, items, 1, 1, []api.Eff{del(0, "a", dot(0, 1, 0))}, []api.Item{items[6], items[1], items[4], items[3], items[5]})
	for _, l := range append(rows(4, fewItems()...), items) {
		got := Do(l, 1, 2, fewEffs()[:1])
		for i := range got[1:] {
			if !item.Less(got[i], got[i+1]) {
				t.Fatalf("Do(%v) = %v is not in order", l, got)
			}
		}
		checkDo(t, l, 1, 2, []api.Eff{{}}, item.Norm(l))
	}
}

func TestP10_2DoOneBehindTheOther(t *testing.T) {
	own, x := dot(1, 2, 0), elem("a", "x", dot(0, 1, 0))
	// What an earlier effect makes, a later one takes away; what an earlier one took away, a later one makes anew.
	checkDo(t, []api.Item{x}, 1, 2, []api.Eff{add(0, "a", "y"), del(1, "a", own)}, []api.Item{x})
	checkDo(t, []api.Item{x}, 1, 2, []api.Eff{add(0, "a", "y"), add(1, "a", "y", own)}, []api.Item{x, elem("a", "y", dot(1, 2, 1))})
	checkDo(t, []api.Item{x}, 1, 2, []api.Eff{del(1, "a", own), add(0, "a", "y")}, []api.Item{x, elem("a", "y", own)})
	checkDo(t, []api.Item{x}, 0, 1, []api.Eff{del(0, "a", x.Dot), add(0, "a", "x")}, []api.Item{x})
	checkDo(t, []api.Item{x}, 0, 1, []api.Eff{add(0, "b", "y"), del(0, "a", x.Dot), add(0, "c", "z")}, []api.Item{elem("c", "z", x.Dot)})
	// An effect takes away ahead of making, so what it makes stays though it names it.
	checkDo(t, []api.Item{elem("a", "a", own)}, 1, 2, []api.Eff{add(0, "a", "y", own)}, []api.Item{elem("a", "y", own)})
	checkDo(t, nil, 1, 2, []api.Eff{add(0, "a", "y", own), add(0, "a", "z", own)}, []api.Item{elem("a", "z", own)})
	checkDo(t, nil, 1, 2, []api.Eff{add(0, "a", "y"), add(0, "a", "z", own), del(0, "a", own)}, nil)
	checkDo(t, nil, 1, 2, []api.Eff{add(0, "a", "y"), del(1, "a", own), del(2, "a", own), add(3, "a", "y")}, []api.Item{elem("a", "y", dot(1, 2, 3))})
}

func TestP10_2DoTwoOfOneDot(t *testing.T) {
	own := dot(1, 2, 0)
	lesser, greater := elem("a", "x", own), elem("a", "y", own)
	checkDo(t, []api.Item{lesser}, 1, 2, []api.Eff{add(0, "a", "y")}, []api.Item{lesser})
	checkDo(t, []api.Item{greater}, 1, 2, []api.Eff{add(0, "a", "x")}, []api.Item{lesser})
	checkDo(t, []api.Item{greater}, 1, 2, []api.Eff{add(0, "a", "y")}, []api.Item{greater})
	checkDo(t, nil, 1, 2, []api.Eff{add(0, "a", "y"), add(0, "a", "x")}, []api.Item{lesser})
	checkDo(t, nil, 1, 2, []api.Eff{add(0, "a", "x"), add(0, "a", "y")}, []api.Item{lesser})
	checkDo(t, []api.Item{elem("b", "x", own)}, 1, 2, []api.Eff{add(0, "a", "y")}, []api.Item{greater})
	checkDo(t, []api.Item{elem("b", "x", own), lesser}, 3, 1, []api.Eff{del(0, "a", own)}, nil)
}

func TestP10_2DoOfAnyKind(t *testing.T) {
	// Kind 0 makes nothing, whatever else is told; each other Kind makes an item, be it formed or not.
	for _, kind := range ints() {
		e := api.Eff{At: -3, Key: "\xff", Field: "F", Kind: kind, Elem: strings.Repeat("e", 99), N: 7, Drops: []api.Dot{{}, dot(9, -9, 9)}}
		x := api.Item{Key: "\xff", Field: "F", Kind: kind, Elem: strings.Repeat("e", 99), N: 7, Dot: dot(-1, 0, -3)}
		var want []api.Item
		if kind != 0 {
			want = []api.Item{x}
		}
		checkDo(t, nil, -1, 0, []api.Eff{e}, want)
		checkDo(t, []api.Item{{N: 1}, {Key: "q", Dot: dot(9, -9, 9)}}, -1, 0, []api.Eff{e}, want)
	}
	for _, n := range ints() {
		checkDo(t, nil, n, 1, []api.Eff{add(0, "a", "x")}, []api.Item{elem("a", "x", dot(n, 1, 0))})
		checkDo(t, nil, 1, n, []api.Eff{add(0, "a", "x")}, []api.Item{elem("a", "x", dot(1, n, 0))})
		checkDo(t, nil, 1, 1, []api.Eff{add(n, "a", "x")}, []api.Item{elem("a", "x", dot(1, 1, n))})
		checkDo(t, []api.Item{elem("a", "x", dot(n, n, n))}, 1, 1, []api.Eff{del(0, "a", dot(n, n, n))}, nil)
	}
}

func TestP10_2DoOfEach(t *testing.T) {
	items := append(rows(2, fewItems()...), fewItems(), item.Norm(fewItems()))
	for _, l := range rows(3, fewEffs()...) {
		for _, have := range items {
			checkDo(t, have, 1, 2, l, doOf(have, 1, 2, l))
		}
	}
	for _, l := range rows(5, fewEffs()[:4]...) {
		checkDo(t, fewItems(), 1, 2, l, doOf(fewItems(), 1, 2, l))
		checkDo(t, fewItems(), 1, 1, l, doOf(fewItems(), 1, 1, l))
	}
}

// someDots are n dots of few nodes, numbers and Ats, in no order.
func someDots(n int, next func(int) int) []api.Dot {
	l := make([]api.Dot, n)
	for i := range l {
		l[i] = dot(next(3), next(3), next(3))
	}
	return l
}

// someItems are n items of few values of each part, so that many have one Dot, or differ in one part alone.
func someItems(n int, next func(int) int) []api.Item {
	keys := []string{"a", "b", "a/", "a/b", "ab", "", "A"}
	l := make([]api.Item, n)
	for i, d := range someDots(n, next) {
		l[i] = api.Item{Key: keys[next(len(keys))], Field: keys[next(2)*5], Kind: next(4), Elem: keys[next(3)], N: int64(next(3) - 1), Dot: d}
	}
	return l
}

// someEffs are n effects of few values of each part, most of them not formed.
func someEffs(n int, next func(int) int) []api.Eff {
	l := make([]api.Eff, n)
	for i, x := range someItems(n, next) {
		l[i] = api.Eff{At: x.Dot.At, Key: x.Key, Field: x.Field, Kind: x.Kind, Elem: x.Elem, N: x.N, Drops: someDots(next(5), next)}
	}
	return l
}

func TestP10_2DoOfSome(t *testing.T) {
	for seed := range uint32(4000) {
		next := chance(seed)
		items, l := someItems(next(20), next), someEffs(next(8), next)
		checkDo(t, items, 1, 2, l, doOf(items, 1, 2, l))
		checkDo(t, item.Norm(items), 2, 1, l, doOf(item.Norm(items), 2, 1, l))
	}
}

func TestP10_2DoAPartAtATime(t *testing.T) {
	for seed := range uint32(1000) {
		next := chance(seed)
		items, l := someItems(next(20), next), someEffs(next(8), next)
		want := Do(items, 1, 2, l)
		for i := range l {
			checkDo(t, Do(items, 1, 2, l[:i]), 1, 2, l[i:], want)
		}
	}
}

// zones are lists of texts that cover something, or nothing, in their one form or not.
func zones() [][]string {
	return [][]string{
		nil, {}, {""}, {"a"}, {"b"}, {"a", "b"}, {"a/"}, {"a/b"}, {"/"}, {"k"}, {"a", "a/b"}, {"a/b", "a"}, {"b", "a"}, {"a", "a"}, {"", "a"}, {"b", ""},
		{"A"}, {"a", "A", "\xff"}, {"\x00"}, {"aa", "ab", "a0"}, {"a\x00", "é"}, {strings.Repeat("a", 16)}, {strings.Repeat("a", 40), "b"},
		{"q", "zz", "c", "0", "1", "2", "3", "4", "5", "6", "a/b", "7", "8", "9"},
	}
}

func TestP10_2OnlyKnown(t *testing.T) {
	l := []api.Eff{add(3, "b", "x", dot(0, 1, 0)), del(0, "a", rising(5)...), {At: 1, Key: "a/b", Field: "f", Kind: 3, N: 9}, add(2, "a", "y"), {}}
	checkOnly(t, l, nil, nil)
	checkOnly(t, l, []string{}, nil)
	checkOnly(t, l, []string{""}, l)
	checkOnly(t, l, []string{"a"}, l[1:4])
	checkOnly(t, l, []string{"a/"}, l[2:3])
	checkOnly(t, l, []string{"b"}, l[:1])
	checkOnly(t, l, []string{"b", "a/b"}, []api.Eff{l[0], l[2]})
	checkOnly(t, l, []string{"a", "b"}, l[:4])
	checkOnly(t, l, []string{"a/bc", "c", "A"}, nil)
	checkOnly(t, nil, []string{""}, nil)
	checkOnly(t, nil, nil, nil)
	// The same one twice stays twice; what isn't formed stays as it is.
	checkOnly(t, slices.Concat(l, l[:1], l), []string{"b"}, []api.Eff{l[0], l[0], l[0]})
	odd := []api.Eff{{At: -1, Key: "\xff b", Field: "F", Kind: 9, Elem: strings.Repeat("e", 99), N: 7, Drops: []api.Dot{dot(9, 9, 9), {}, {}}}, {Key: "Z"}, {Key: strings.Repeat("z", 20)}}
	checkOnly(t, odd, []string{"\xff "}, odd[:1])
	checkOnly(t, odd, []string{"Z", "Z "}, odd[1:2])
	checkOnly(t, odd, []string{strings.Repeat("z", 20)}, odd[2:])
	checkOnly(t, odd, []string{strings.Repeat("z", 21)}, nil)
	checkOnly(t, odd, []string{""}, odd)
}

func TestP10_2OnlyOfEach(t *testing.T) {
	lists := append(rows(2, fewEffs()...), fewEffs())
	for seed := range uint32(50) {
		lists = append(lists, someEffs(int(seed), chance(seed)))
	}
	for _, l := range lists {
		for _, z := range zones() {
			want := onlyOf(l, z)
			checkOnly(t, l, z, want)
			checkOnly(t, want, z, want)
		}
		for _, s := range texts() {
			checkOnly(t, l, []string{s}, onlyOf(l, []string{s}))
			checkOnly(t, l, []string{"b", s, "a/"}, onlyOf(l, []string{"b", s, "a/"}))
		}
	}
}

func TestP10_3HeardKnown(t *testing.T) {
	v := api.Vec{2, 0, -5, 3}
	heard := []api.Dot{dot(0, 1, 0), dot(0, 2, 0), dot(0, 2, 9), dot(0, 1, -1), dot(3, 1, 0), dot(3, 3, 7), dot(1, 5, 0), dot(1, 5, 99), dot(1, 5, -99)}
	not := []api.Dot{dot(0, 3, 0), dot(0, 0, 0), dot(0, -1, 0), dot(1, 1, 0), dot(1, 4, 0), dot(1, 6, 0), dot(2, 1, 0), dot(2, -5, 0), dot(2, 5, 0), dot(3, 4, 0), dot(4, 1, 0), dot(4, 5, 0), dot(-1, 1, 0), dot(-1, 5, 0), {}}
	checkHeard(t, nil, 1, 5, v, true)
	checkHeard(t, nil, -1, 0, nil, true)
	checkHeard(t, []api.Eff{{}, add(0, "a", "x"), {Drops: []api.Dot{}}}, 1, 5, v, true)
	checkHeard(t, []api.Eff{add(0, "a", "x", heard...)}, 1, 5, v, true)
	for _, d := range not {
		checkHeard(t, []api.Eff{del(0, "a", d)}, 1, 5, v, false)
		for i := range heard {
			checkHeard(t, []api.Eff{del(0, "a", slices.Insert(slices.Clone(heard), i, d)...)}, 1, 5, v, false)
		}
		checkHeard(t, []api.Eff{add(0, "a", "x", heard...), add(1, "a", "x"), del(0, "a", d)}, 1, 5, v, false)
		checkHeard(t, []api.Eff{del(0, "a", d), add(1, "a", "x"), add(0, "a", "x", heard...)}, 1, 5, v, false)
	}
	for _, d := range heard {
		checkHeard(t, []api.Eff{del(0, "a", d)}, 1, 5, v, true)
		checkHeard(t, []api.Eff{del(0, "a", d)}, 9, 9, nil, false)
		checkHeard(t, []api.Eff{del(0, "a", d)}, d.Node, d.Seq, nil, true)
	}
}

func TestP10_3HeardOfEach(t *testing.T) {
	vectors := []api.Vec{nil, {}, {0}, {1}, {2, 1}, {0, 2}, {-1, 3}, {3, -1, 2}, {0, 0, 1}, {1, 1, 1}, {math.MaxInt, math.MinInt}, {1, 1, 1, 1, 1, 1, 1, 1, 1, 5}}
	numbers := []int{math.MinInt, -1, 0, 1, 2, 3, 9, 1 << 30, math.MaxInt}
	for _, v := range vectors {
		for _, node := range numbers {
			for _, seq := range numbers {
				for _, of := range numbers {
					for _, number := range numbers {
						l := []api.Eff{del(0, "a", dot(of, number, 3))}
						checkHeard(t, l, node, seq, v, heardOf(l, node, seq, v))
					}
				}
			}
		}
		for seed := range uint32(300) {
			next := chance(seed)
			l := someEffs(next(4), next)
			checkHeard(t, l, 1, 2, v, heardOf(l, 1, 2, v))
		}
	}
}

func TestP10_3HeardByDropsAlone(t *testing.T) {
	// What an effect makes, whether it is formed, and where it stands say nothing.
	for _, e := range append(fewEffs(), kinds()...) {
		e.Drops = nil
		checkHeard(t, []api.Eff{e}, 1, 1, nil, true)
		e.Drops = []api.Dot{dot(0, 3, 0)}
		checkHeard(t, []api.Eff{e}, 1, 1, api.Vec{2, 9, 9}, false)
		checkHeard(t, []api.Eff{e}, 1, 1, api.Vec{3}, true)
		checkHeard(t, []api.Eff{e}, 0, 3, nil, true)
	}
}

// rightEffs are right effects of a transaction: their Drops are some of these dots, and of those of earlier effects.
func rightEffs(node, seq int, dots []api.Dot, next func(int) int) []api.Eff {
	var l []api.Eff
	keys := []string{"a", "b", "a/b"}
	for at := range 8 {
		if next(3) == 0 {
			continue
		}
		e := []api.Eff{add(at, "", keys[next(3)]), put(at, "", keys[next(3)]), inc(at, "", int64(next(5))), del(at, "")}[next(4)]
		e.Key, e.Field = keys[next(3)], keys[next(3)]
		var own []api.Dot
		for earlier := range at {
			own = append(own, dot(node, seq, earlier))
		}
		for _, d := range slices.Concat(dots, own) {
			if next(3) == 0 {
				e.Drops = append(e.Drops, d)
			}
		}
		slices.SortFunc(e.Drops, func(a, b api.Dot) int {
			if ahead(a, b) {
				return -1
			}
			return 1
		})
		e.Drops = slices.Compact(e.Drops)
		if e.Kind != 0 || len(e.Drops) > 0 {
			l = append(l, e)
		}
	}
	return l
}

// isOfOne tells whether d is a dot of one of these transactions.
func isOfOne(d api.Dot, txns ...api.Dot) bool {
	return slices.ContainsFunc(txns, func(t api.Dot) bool { return d.Node == t.Node && d.Seq == t.Seq })
}

// besideItems are some items that have no dot of these transactions; besideDots are dots that items may have, none of them of these.
func besideItems(next func(int) int, txns ...api.Dot) []api.Item {
	l := someItems(next(20), next)
	return slices.DeleteFunc(l, func(x api.Item) bool { return isOfOne(x.Dot, txns...) })
}

func besideDots(next func(int) int, txns ...api.Dot) []api.Dot {
	l := someDots(8, next)
	return slices.DeleteFunc(l, func(d api.Dot) bool { return !mayBe(d) || isOfOne(d, txns...) })
}

// checkEither asks that the effects of two transactions leave the same, whichever is done first.
func checkEither(t *testing.T, items []api.Item, one, two api.Dot, a, b []api.Eff) {
	t.Helper()
	if !isRight(one.Node, one.Seq, a) || !Right(one.Node, one.Seq, a) || !isRight(two.Node, two.Seq, b) || !Right(two.Node, two.Seq, b) {
		t.Fatalf("the effects %v of %v, or %v of %v, are not right", a, one, b, two)
	}
	first := Do(Do(items, one.Node, one.Seq, a), two.Node, two.Seq, b)
	second := Do(Do(items, two.Node, two.Seq, b), one.Node, one.Seq, a)
	if !slices.Equal(first, second) {
		t.Fatalf("behind %v of %v, then %v of %v, %v are %v; the other way round %v", a, one, b, two, items, first, second)
	}
}

func TestP10_4EitherOrder(t *testing.T) {
	pairs := [][2]api.Dot{{dot(1, 2, 0), dot(2, 1, 0)}, {dot(1, 1, 0), dot(1, 2, 0)}, {dot(0, 2, 0), dot(1, 2, 0)}, {dot(0, 1, 0), dot(7, 1<<30, 0)}}
	for seed := range uint32(2000) {
		next := chance(seed)
		pair := pairs[next(4)]
		one, two := pair[0], pair[1]
		items, dots := besideItems(next, one, two), besideDots(next, one, two)
		a, b := rightEffs(one.Node, one.Seq, dots, next), rightEffs(two.Node, two.Seq, dots, next)
		checkEither(t, items, one, two, a, b)
		checkEither(t, item.Norm(items), one, two, a, b)
		checkEither(t, items, one, two, nil, b)
		checkEither(t, items, one, two, a, nil)
		checkEither(t, nil, one, two, a, b)
	}
}

func TestP10_4EitherOrderOfAllShortOnes(t *testing.T) {
	one, two := dot(1, 2, 0), dot(2, 1, 0)
	lists := func(node, seq int) [][]api.Eff {
		of := []api.Eff{
			add(0, "a", "x"), del(0, "a", dot(0, 1, 0)), add(1, "a", "w", dot(node, seq, 0)), put(1, "b", "", dot(0, 1, 0), dot(0, 1, 1)),
			inc(2, "a", 5, dot(node, seq, 0), dot(node, seq, 1)), del(3, "b", dot(0, 1, 1)),
		}
		return slices.DeleteFunc(rows(3, of...), func(l []api.Eff) bool { return !isRight(node, seq, l) })
	}
	have := []api.Item{elem("b", "y", dot(0, 1, 1)), elem("a", "y", dot(0, 1, 0)), elem("c", "y", dot(0, 1, 0)), elem("a", "x", dot(3, 1, 0))}
	as, bs := lists(1, 2), lists(2, 1)
	if len(as) < 20 || len(as) != len(bs) {
		t.Fatalf("%d and %d lists of effects are right", len(as), len(bs))
	}
	for _, items := range rows(3, have...) {
		for _, a := range as {
			for _, b := range bs {
				checkEither(t, items, one, two, a, b)
			}
		}
	}
}

func TestP10_4OnceMoreChangesNothing(t *testing.T) {
	for seed := range uint32(3000) {
		next := chance(seed)
		items := someItems(next(20), next)
		l := rightEffs(1, 2, besideDots(next, dot(1, 2, 0)), next)
		checkRight(t, 1, 2, l, true)
		once := Do(items, 1, 2, l)
		checkDo(t, once, 1, 2, l, once)
	}
}

func TestP10_4UnderAZone(t *testing.T) {
	// Where each effect takes away what stands under its own key alone, what stands under a zone hangs on what stood there, and on the effects under it.
	for seed := range uint32(2000) {
		next := chance(seed)
		items := item.Norm(besideItems(next, dot(1, 2, 0)))
		l := rightEffs(1, 2, nil, next)
		for i, e := range l {
			var own []api.Dot
			for _, x := range Do(items, 1, 2, l[:i]) {
				if x.Key == e.Key && next(2) == 0 {
					own = append(own, x.Dot)
				}
			}
			l[i].Drops = own
		}
		all := Do(items, 1, 2, l)
		for _, z := range zones() {
			checkDo(t, item.Under(items, z), 1, 2, Only(l, z), item.Under(all, z))
		}
	}
}

// spare is a list that has more behind it as its spare room, and the whole of it.
func spare[T any](l []T, more ...T) (whole, laid []T) {
	whole = slices.Concat(l, more)
	return whole, whole[:len(l)]
}

// spareEffs are the effects of a list, with more behind them as spare room, and behind their Drops, too; and the whole of it.
func spareEffs(list []api.Eff) (whole, laid []api.Eff) {
	whole, laid = spare(list, fewEffs()...)
	for i := range whole {
		_, whole[i].Drops = spare(whole[i].Drops, dot(5, 5, 5), dot(0, 1, 0), dot(1, 2, 0))
	}
	return whole, laid
}

// deep is a copy of effects that shares nothing, with the spare room of their Drops.
func deep(l []api.Eff) []api.Eff {
	l = slices.Clone(l)
	for i := range l {
		l[i].Drops = slices.Clone(l[i].Drops[:cap(l[i].Drops)])[:len(l[i].Drops)]
	}
	return l
}

// sameDeep tells whether effects are the same, with the spare room of their Drops.
func sameDeep(a, b []api.Eff) bool {
	return slices.EqualFunc(a, b, func(a, b api.Eff) bool {
		whole := min(cap(a.Drops), cap(b.Drops))
		return sameEff(a, b) && whole >= len(a.Drops) && slices.Equal(a.Drops[:whole], b.Drops[:whole])
	})
}

// turn changes all of an answer, spare room and all.
func turn[T any](answer []T, to T) {
	for i := range answer[:cap(answer)] {
		answer[:cap(answer)][i] = to
	}
}

// turnEffs changes all of an answer, spare room and Drops and all.
func turnEffs(answer []api.Eff) {
	for _, e := range answer[:cap(answer)] {
		turn(e.Drops, dot(9, 9, 9))
	}
	turn(answer, api.Eff{Key: "turned"})
}

func TestP10_2NothingIsChangedOrShared(t *testing.T) {
	lists := append(rows(2, fewEffs()...), fewEffs(), nil, []api.Eff{})
	for _, have := range append(rows(2, fewItems()[:4]...), fewItems(), item.Norm(fewItems())) {
		for _, list := range lists {
			wholeItems, items := spare(have, fewItems()...)
			before := slices.Clone(wholeItems)
			whole, l := spareEffs(list)
			effs := deep(whole)
			v := api.Vec{1, 2, 3}
			kept := func(what string) {
				t.Helper()
				if !slices.Equal(wholeItems, before) || !sameDeep(whole, effs) || !slices.Equal(v, api.Vec{1, 2, 3}) {
					t.Fatalf("%s of %v and %v: what was handed in, or its spare room, was changed, or is shared", what, have, list)
				}
			}
			Right(1, 2, l)
			Heard(l, 1, 2, v[:2])
			for _, e := range l {
				Formed(1, 2, e)
			}
			done, all, some := Do(items, 1, 2, l), Only(l, []string{""}), Only(l, []string{"a"})
			kept("all calls")
			if !slices.Equal(done, doOf(have, 1, 2, list)) || !sameEffs(all, list) {
				t.Fatalf("spare room tells: Do of %v and %v is %v, Only %v", have, list, done, all)
			}
			turn(done, api.Item{Key: "turned"})
			kept("Do")
			turnEffs(all)
			kept("Only all")
			turnEffs(some)
			kept("Only some")
		}
	}
}

func TestP10_2ZonesAreNotChanged(t *testing.T) {
	for _, list := range zones() {
		whole, z := spare(list, "b", "a", "", "A", "a/b")
		before := slices.Clone(whole)
		got := Only(fewEffs(), z)
		if !slices.Equal(whole, before) {
			t.Fatalf("Only changed %q to %q", before, whole)
		}
		if !sameEffs(got, onlyOf(fewEffs(), list)) {
			t.Fatalf("spare room tells: Only of %q is %v", list, got)
		}
	}
}

func TestP10_2AnswersAreApart(t *testing.T) {
	// Drops that two effects share are two lists in an answer; and no two answers share any.
	drops := rising(4)
	l := []api.Eff{add(0, "a", "x", drops...), add(1, "a", "y", drops...), add(2, "a", "z", drops[:2]...)}
	one, two := Only(l, []string{""}), Only(l, []string{"a"})
	one[0].Drops[1] = dot(9, 9, 9)
	if !slices.Equal(one[1].Drops, rising(4)) || !slices.Equal(one[2].Drops, rising(2)) {
		t.Fatalf("two effects of one answer share Drops: %v", one)
	}
	one[2].Drops = append(one[2].Drops, dot(8, 8, 8))
	turnEffs(one)
	if !sameEffs(two, l) || !slices.Equal(drops, rising(4)) {
		t.Fatalf("two answers share: %v", two)
	}
	items := item.Norm(fewItems())
	for _, effs := range [][]api.Eff{nil, {{}}, l} {
		first, second := Do(items, 1, 2, effs), Do(items, 1, 2, effs)
		want := slices.Clone(second)
		turn(first, api.Item{Key: "turned"})
		if !slices.Equal(second, want) {
			t.Fatalf("two answers of Do share: %v; want %v", second, want)
		}
	}
}

func TestP10_2SameEachTime(t *testing.T) {
	for seed := range uint32(5) {
		next := chance(seed)
		items, l := someItems(300, next), someEffs(30, next)
		want := Do(items, 1, 2, l)
		for range 20 {
			checkDo(t, items, 1, 2, l, want)
			checkOnly(t, l, []string{"a", "b"}, onlyOf(l, []string{"a", "b"}))
		}
	}
}

func TestP10_2AsManyAsMayBe(t *testing.T) {
	// A full list, and a transaction that takes away as much as it may.
	var items []api.Item
	var dots []api.Dot
	for i := range 1 << 15 {
		d := dot(i%8, i/64+2, i/8%8)
		dots = append(dots, d)
		items = append(items, elem("k", "x", d))
	}
	slices.SortFunc(dots, compare)
	items = item.Norm(items)
	var l []api.Eff
	for at := range 8 {
		l = append(l, add(at, "k", "y", dots[at*64:at*64+64]...))
	}
	checkRight(t, 7, 1, l, true)
	checkHeard(t, l, 7, 1, api.Vec{600, 600}, true)
	want := item.Without(items, dots[:512])
	for at := range 8 {
		want = append(want, elem("k", "y", dot(7, 1, at)))
	}
	checkDo(t, items, 7, 1, l, item.Norm(want))
}

func TestP10_2LongLists(t *testing.T) {
	const n = 1 << 17
	items, want, l, beside := make([]api.Item, n), make([]api.Item, n), make([]api.Eff, n), make([]string, n)
	keys := make([]string, n)
	for i := range n {
		keys[i] = fmt.Sprintf("k%07d", i)
		beside[n-1-i] = keys[i] + "x"
		items[i] = elem(keys[i], "x", dot(i%8, i/8+1, 0))
		l[i] = add(i, keys[i], "y", items[i].Dot)
		want[i] = elem(keys[i], "y", dot(9, 9, i))
	}
	checkDo(t, items, 9, 9, l, want)
	checkDo(t, items, 9, 9, l[3:], append(slices.Clone(items[:3]), want[3:]...))
	checkHeard(t, l, 9, 9, slices.Repeat(api.Vec{n / 8}, 8), true)
	checkHeard(t, l, 9, 9, slices.Repeat(api.Vec{n/8 - 1}, 8), false)
	checkOnly(t, l, keys, l)
	checkOnly(t, l, keys[3:], l[3:])
	checkOnly(t, l, beside, nil)
	checkOnly(t, l, append(beside, "k0000"), l[:1000])
}
