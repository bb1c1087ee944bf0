package zone

import (
	"maps"
	"regexp"
	"slices"
	"sort"
	"strings"
	"testing"

	"buttery/api"
)

// letters are all bytes that may stand in a prefix.
const letters = "/0123456789abcdefghijklmnopqrstuvwxyz"

// prefixForm is how the document tells a prefix.
var prefixForm = regexp.MustCompile(`\A[a-z0-9/]{0,16}\z`)

// begins tells whether s begins with p.
func begins(s, p string) bool { return len(s) >= len(p) && s[:len(p)] == p }

// beginsAny tells whether s begins with one of l.
func beginsAny(s string, l []string) bool {
	for _, p := range l {
		if begins(s, p) {
			return true
		}
	}
	return false
}

// inOrder are the texts of a set, the lesser ones first.
func inOrder(m map[string]struct{}) []string {
	l := slices.Collect(maps.Keys(m))
	sort.Strings(l)
	return l
}

// leftOf is what stays of a list where a text goes that begins with another one.
func leftOf(l []string) []string {
	m := map[string]struct{}{}
	for i, s := range l {
		stays := true
		for j, p := range l {
			stays = stays && (i == j || s == p || !begins(s, p))
		}
		if stays {
			m[s] = struct{}{}
		}
	}
	return inOrder(m)
}

// isZone tells whether a list is a zone in its one form.
func isZone(z []string) bool {
	for i, s := range z {
		if !prefixForm.MatchString(s) || i > 0 && s <= z[i-1] {
			return false
		}
		for j, p := range z {
			if i != j && begins(s, p) {
				return false
			}
		}
	}
	return len(z) <= 8
}

// normOf is the zone of a list, which hasn't all keys of one byte.
func normOf(l []string) ([]string, api.Errno) {
	for _, s := range l {
		if !prefixForm.MatchString(s) {
			return nil, api.ErrForm
		}
	}
	z := leftOf(l)
	if len(z) > 8 {
		return nil, api.ErrLong
	}
	return z, api.OK
}

// longerOnes are the longer ones of each two of which the one begins with the other.
func longerOnes(a, b []string) []string {
	m := map[string]struct{}{}
	for _, s := range a {
		for _, p := range b {
			if begins(s, p) {
				m[s] = struct{}{}
			} else if begins(p, s) {
				m[p] = struct{}{}
			}
		}
	}
	return inOrder(m)
}

// restOf is the texts of a that begin with none of b's.
func restOf(a, b []string) []string {
	m := map[string]struct{}{}
	for _, s := range a {
		if !beginsAny(s, b) {
			m[s] = struct{}{}
		}
	}
	return inOrder(m)
}

// texts are all texts of at most so many bytes, each one of these.
func texts(most int, of string) []string {
	l := []string{""}
	for from := 0; most > 0; most-- {
		end := len(l)
		for _, s := range l[from:end] {
			for i := range len(of) {
				l = append(l, s+of[i:i+1])
			}
		}
		from = end
	}
	return l
}

// lists are all lists of at most so many of these texts.
func lists(most int, of ...string) [][]string {
	l := [][]string{nil}
	for from := 0; most > 0; most-- {
		end := len(l)
		for _, row := range l[from:end] {
			for _, s := range of {
				l = append(l, append(slices.Clone(row), s))
			}
		}
		from = end
	}
	return l
}

// some are n texts of these bytes, always the same for n and seed.
func some(n int, of string, seed uint32) []string {
	l := make([]string, n)
	state := uint32(n)*7919 + seed
	next := func(below int) int {
		state = state*1664525 + 1013904223
		return int(state >> 9 % uint32(below))
	}
	for i := range l {
		for range 1 + next(6) {
			at := next(len(of))
			l[i] += of[at : at+1]
		}
	}
	return l
}

// digits are n prefixes of which none begins with another one, rising.
func digits(n int) []string {
	l := []string{}
	for i := range n {
		l = append(l, "k"+string([]byte{byte('0' + i/100), byte('0' + i/10%10), byte('0' + i%10)}))
	}
	return l
}

// noPrefixes are texts that are no prefixes.
func noPrefixes() []string {
	l := []string{
		"A", "Z", "aB", "Ba", " ", "a ", " a", "a b", "a.b", ".", "-", "_", "a_b", "a-b", ":", "`", "{", "\x00", "a\x00", "\n", "a\n",
		"é", "aé", "\x80", "\xff", "a\xff", "ａ", "١", "ſ",
		strings.Repeat("a", 17), strings.Repeat("/", 18), strings.Repeat("z", 300), strings.Repeat("é", 8), strings.Repeat("A", 16),
	}
	for b := range 256 {
		if s := string([]byte{byte(b)}); !strings.Contains(letters, s) {
			l = append(l, s, "a"+s, s+"a", "abcdefghijklmno"+s, s+"bcdefghijklmnop", "0/"+s+"/0")
		}
	}
	return l
}

// odd are lists of all kinds, such as are no zones too.
func odd() [][]string {
	l := [][]string{
		{}, {""}, {"", ""}, {"a", ""}, {"", "a"}, {"A"}, {"A", "AB", "a"}, {"\xff", "\xff\xff", "\xfe"}, {"é", "éa", "\xc3"},
		{strings.Repeat("a", 16)}, {strings.Repeat("a", 17)}, {strings.Repeat("a", 17), strings.Repeat("a", 16)},
		{"b", "a"}, {"a/b", "a", "c"}, {"a", "a!", "a/b", "a b", "a"}, {"a", "a!", "a0", "b"}, {"ab", "b", "a", "ba", "c", "cc", "ccc"},
		digits(8), digits(9), digits(200), append(digits(200), "k"), append([]string{"k"}, digits(200)...), append(digits(9), "A"),
		append(digits(20), "k0", ""), slices.Concat(digits(8), digits(8)), slices.Repeat([]string{"a", "b"}, 50),
		some(20, "ab", 1), some(60, "ab/", 2), some(200, "abA", 3), some(300, letters, 4), some(40, "a\xff", 5),
	}
	for _, s := range noPrefixes()[:40] {
		l = append(l, []string{s}, []string{"a", s}, []string{s, "a", s + "a"})
	}
	return l
}

// allLists are short ones of each kind, and odd ones.
func allLists() [][]string {
	return append(lists(3, append(texts(2, "ab"), "A", "aA")...), odd()...)
}

// same tells whether two have the same texts, a list that is nil like an empty one.
func same(a, b []string) bool {
	return len(a) == len(b) && (len(a) == 0 || slices.Equal(a, b))
}

func checkKey(t *testing.T, s string, want bool) {
	t.Helper()
	if got := Key(s); got != want {
		t.Errorf("Key(%q) = %t; want %t", s, got, want)
	}
}

func checkRight(t *testing.T, z []string, want bool) {
	t.Helper()
	if got := Right(z); got != want {
		t.Errorf("Right(%.20q) = %t; want %t", z, got, want)
	}
}

func checkNorm(t *testing.T, l, want []string, refused api.Errno) {
	t.Helper()
	if got, err := Norm(l); err != refused || !same(got, want) {
		t.Errorf("Norm(%.20q) = %.20q, %d; want %.20q, %d", l, got, err, want, refused)
	}
}

func checkUnion(t *testing.T, a, b, want []string, refused api.Errno) {
	t.Helper()
	if got, err := Union(a, b); err != refused || !same(got, want) {
		t.Errorf("Union(%.20q, %.20q) = %.20q, %d; want %.20q, %d", a, b, got, err, want, refused)
	}
}

func checkCovers(t *testing.T, z []string, key string, want bool) {
	t.Helper()
	if got := Covers(z, key); got != want {
		t.Errorf("Covers(%.20q, %q) = %t; want %t", z, key, got, want)
	}
}

func checkInter(t *testing.T, a, b, want []string) {
	t.Helper()
	if got := Inter(a, b); !same(got, want) {
		t.Errorf("Inter(%.20q, %.20q) = %.20q; want %.20q", a, b, got, want)
	}
}

func checkWithout(t *testing.T, a, b, want []string) {
	t.Helper()
	if got := Without(a, b); !same(got, want) {
		t.Errorf("Without(%.20q, %.20q) = %.20q; want %.20q", a, b, got, want)
	}
}

func checkWithin(t *testing.T, a, b []string, want bool) {
	t.Helper()
	if got := Within(a, b); got != want {
		t.Errorf("Within(%.20q, %.20q) = %t; want %t", a, b, got, want)
	}
}

func TestP8_1KeyKnown(t *testing.T) {
	for _, s := range []string{"a", "z", "0", "9", "/", "//", "a/b", "abc123/x", "0a", "///////////////a", letters[:16], letters[len(letters)-16:]} {
		checkKey(t, s, true)
	}
	checkKey(t, "", false)
	for _, s := range noPrefixes() {
		checkKey(t, s, false)
	}
}

func TestP8_1KeyByItsLength(t *testing.T) {
	for n := range 60 {
		checkKey(t, strings.Repeat("a", n), n >= 1 && n <= 16)
		checkKey(t, strings.Repeat("a/0", 20)[:n], n >= 1 && n <= 16)
	}
	// Bytes are counted, not runes.
	checkKey(t, strings.Repeat("é", 16), false)
	checkKey(t, strings.Repeat("a", 1<<20), false)
}

func TestP8_1KeyOfEachByteInEachPlace(t *testing.T) {
	for b := range 256 {
		want := strings.IndexByte(letters, byte(b)) >= 0
		for n := 1; n <= 16; n++ {
			for at := range n {
				s := []byte(strings.Repeat("m", n))
				s[at] = byte(b)
				checkKey(t, string(s), want)
			}
		}
	}
}

func TestP8_1KeyOfEachTwoBytes(t *testing.T) {
	for i := range 1 << 16 {
		s := string([]byte{byte(i >> 8), byte(i)})
		checkKey(t, s, prefixForm.MatchString(s))
	}
}

func TestP8_1RightKnown(t *testing.T) {
	right := [][]string{
		nil, {}, {""}, {"a"}, {"/"}, {"a", "b"}, {"a", "c"}, {"a/b", "a/c", "b"}, {"/", "0", "9", "a", "z"}, {"a0", "aa", "b"},
		{letters[:16]}, {strings.Repeat("a", 16), strings.Repeat("a", 15) + "b"}, digits(8), {"aa", "ab", "b"},
	}
	for _, z := range right {
		checkRight(t, z, true)
	}
	wrong := [][]string{
		{"", ""}, {"", "a"}, {"a", ""}, {"a", "a"}, {"b", "a"}, {"a", "ab"}, {"ab", "a"}, {"a", "a/b"}, {"a", "b", "ba"}, {"a", "b", "a"},
		{"a", "ab", "b"}, {"a", "b", "bc", "c"}, {"c", "a/b"}, {"A"}, {"a", "b "}, {"\xff"}, {"A", "a"}, {"a", "é"}, {"a", "z", "{"},
		{strings.Repeat("a", 17)}, {"a", strings.Repeat("b", 17)}, digits(9), digits(200),
	}
	for _, z := range wrong {
		checkRight(t, z, false)
	}
}

func TestP8_1RightByItsLength(t *testing.T) {
	for n := range 40 {
		checkRight(t, digits(n), n <= 8)
	}
}

func TestP8_1RightWithOneWrongInEachPlace(t *testing.T) {
	for n := 1; n <= 8; n++ {
		for at := range n {
			for _, s := range append(noPrefixes(), "", "k", "k0", "k00") {
				z := digits(n)
				z[at] = s
				checkRight(t, z, isZone(z))
			}
			for to := range n {
				z := digits(n)
				z[at] = z[to]
				checkRight(t, z, at == to)
				z = digits(n)
				z[at], z[to] = z[to], z[at]
				checkRight(t, z, at == to)
				z = digits(n)
				z[at] = z[to] + "x"
				checkRight(t, z, at == to)
			}
		}
	}
}

func TestP8_1RightOfEach(t *testing.T) {
	for _, z := range append(lists(4, append(texts(2, "ab"), "aba")...), allLists()...) {
		checkRight(t, z, isZone(z))
	}
}

func TestP8_2NormKnown(t *testing.T) {
	checkNorm(t, []string{"a/b", "a", "c"}, []string{"a", "c"}, api.OK)
	checkNorm(t, nil, nil, api.OK)
	checkNorm(t, []string{}, nil, api.OK)
	checkNorm(t, []string{""}, []string{""}, api.OK)
	checkNorm(t, []string{"a"}, []string{"a"}, api.OK)
	checkNorm(t, []string{"a", "a"}, []string{"a"}, api.OK)
	checkNorm(t, []string{"a", ""}, []string{""}, api.OK)
	checkNorm(t, []string{"", "a"}, []string{""}, api.OK)
	checkNorm(t, []string{"c", "b", "a"}, []string{"a", "b", "c"}, api.OK)
	checkNorm(t, []string{"a", "a/b"}, []string{"a"}, api.OK)
	checkNorm(t, []string{"a/b", "a"}, []string{"a"}, api.OK)
	checkNorm(t, []string{"ab", "x", "c", "a", "cd", "abc"}, []string{"a", "c", "x"}, api.OK)
	checkNorm(t, []string{"z", "9", "0", "a", "/"}, []string{"/", "0", "9", "a", "z"}, api.OK)
	checkNorm(t, []string{"aab", "ab", "aa", "aba", "b"}, []string{"aa", "ab", "b"}, api.OK)
	long := strings.Repeat("a", 16)
	checkNorm(t, []string{long}, []string{long}, api.OK)
	checkNorm(t, []string{long, long[:15]}, []string{long[:15]}, api.OK)
	checkNorm(t, []string{long, long[:15] + "b"}, []string{long, long[:15] + "b"}, api.OK)
}

func TestP8_2NormByItsLength(t *testing.T) {
	for n := range 40 {
		z := digits(n)
		back := slices.Clone(z)
		slices.Reverse(back)
		for _, l := range [][]string{z, back, slices.Concat(z, z), slices.Concat(z, back, z)} {
			if n <= 8 {
				checkNorm(t, l, z, api.OK)
			} else {
				checkNorm(t, l, nil, api.ErrLong)
			}
			checkNorm(t, append(slices.Clone(l), "k"), []string{"k"}, api.OK)
			checkNorm(t, append([]string{""}, l...), []string{""}, api.OK)
		}
	}
}

func TestP8_2NormOfManyThatMakeFew(t *testing.T) {
	// All texts of up to three bytes begin with one of one byte.
	few := []string{"a", "b", "c", "d", "e", "f", "g", "h"}
	l := texts(3, "abcdefgh")[1:]
	checkNorm(t, l, few, api.OK)
	slices.Reverse(l)
	checkNorm(t, l, few, api.OK)
	checkNorm(t, texts(3, "abcdefghi")[1:], nil, api.ErrLong)
	checkNorm(t, append(texts(3, "abcdefghi")[1:], ""), []string{""}, api.OK)
	checkNorm(t, append(digits(9), "k00"), []string{"k00"}, api.OK)
	checkNorm(t, append(digits(12), "k00"), []string{"k00", "k010", "k011"}, api.OK)
	checkNorm(t, append(digits(17), "k00"), []string{"k00", "k010", "k011", "k012", "k013", "k014", "k015", "k016"}, api.OK)
	checkNorm(t, append(digits(18), "k00"), nil, api.ErrLong)
}

func TestP8_2NormOfAllKeysOfOneByte(t *testing.T) {
	// Whatever begins with one of all of them is each key: just what the empty prefix covers.
	all := strings.Split(letters, "")
	checkNorm(t, all, []string{""}, api.OK)
	checkNorm(t, append(slices.Clone(all), "a", "a/b", "zz"), []string{""}, api.OK)
	slices.Reverse(all)
	checkNorm(t, all, []string{""}, api.OK)
	checkNorm(t, texts(2, letters)[1:], []string{""}, api.OK)
	checkUnion(t, all[:20], all[20:], []string{""}, api.OK)
	for i := range all {
		most := slices.Delete(slices.Clone(all), i, i+1)
		checkNorm(t, most, nil, api.ErrLong)
		checkUnion(t, most, most, nil, api.ErrLong)
		checkUnion(t, most, all[i:i+1], []string{""}, api.OK)
		// All keys that begin with a byte, but the one of that byte alone.
		for j := range letters {
			most = append(most, all[i]+letters[j:j+1])
		}
		checkNorm(t, most, nil, api.ErrLong)
		checkNorm(t, append(most, "A"), nil, api.ErrForm)
	}
	checkNorm(t, append(all, "A"), nil, api.ErrForm)
	checkNorm(t, texts(2, letters)[1+len(letters):], nil, api.ErrLong)
	checkRight(t, strings.Split(letters, ""), false)
}

func TestP8_2NormIsRefusedForOneWrong(t *testing.T) {
	for _, s := range noPrefixes() {
		checkNorm(t, []string{s}, nil, api.ErrForm)
		checkNorm(t, []string{s, "a", "b"}, nil, api.ErrForm)
		checkNorm(t, []string{"a", s, "b"}, nil, api.ErrForm)
		checkNorm(t, []string{"a", "b", s}, nil, api.ErrForm)
		checkNorm(t, []string{s, s}, nil, api.ErrForm)
		// Where the empty prefix, or its own first bytes, cover it.
		checkNorm(t, []string{"", s}, nil, api.ErrForm)
		checkNorm(t, []string{s, ""}, nil, api.ErrForm)
		checkNorm(t, []string{s[:len(s)-1], s}, nil, api.ErrForm)
		// And where the list is too long besides.
		checkNorm(t, append(digits(9), s), nil, api.ErrForm)
		checkNorm(t, append([]string{s}, digits(50)...), nil, api.ErrForm)
		checkNorm(t, slices.Insert(digits(20), 10, s), nil, api.ErrForm)
	}
}

func TestP8_2NormOfEach(t *testing.T) {
	for _, l := range append(lists(4, append(texts(2, "ab"), "aba", "A")...), odd()...) {
		want, refused := normOf(l)
		checkNorm(t, l, want, refused)
	}
	for seed := range uint32(400) {
		l := some(int(seed%40), "ab0/", seed)
		want, refused := normOf(l)
		checkNorm(t, l, want, refused)
	}
}

func TestP8_2CoversKnown(t *testing.T) {
	z := []string{"a/b", "c", "c0"}
	for _, key := range []string{"a/b", "a/bc", "a/b/", "c", "c0", "c0c", "cc", "c/", "a/bbbbbbbbbbbbbb"} {
		checkCovers(t, z, key, true)
	}
	for _, key := range []string{"a", "a/", "a/a", "b", "ac", "0c", "/", "", "/a/b", "ba/b", "A/b", "C"} {
		checkCovers(t, z, key, false)
	}
	for _, key := range append(texts(2, letters), noPrefixes()...) {
		checkCovers(t, nil, key, false)
		checkCovers(t, []string{}, key, false)
		checkCovers(t, []string{""}, key, true)
		checkCovers(t, []string{"q/x", "zz/", ""}, key, true)
		checkCovers(t, []string{key}, key, true)
		checkCovers(t, []string{key + "a"}, key, false)
		checkCovers(t, []string{"zzz", key, "zzzz"}, key+"a", true)
	}
}

func TestP8_2CoversByTextsThatAreNoPrefixes(t *testing.T) {
	checkCovers(t, []string{"A"}, "A", true)
	checkCovers(t, []string{"A"}, "AB", true)
	checkCovers(t, []string{"A"}, "a", false)
	checkCovers(t, []string{"\xc3"}, "é", true)
	checkCovers(t, []string{"é"}, "\xc3", false)
	checkCovers(t, []string{"b", "\x00"}, "\x00\x00", true)
	long := strings.Repeat("a", 40)
	checkCovers(t, []string{long[:20]}, long, true)
	checkCovers(t, []string{long}, long[:39], false)
	checkCovers(t, []string{"c", "b", "a"}, "b", true)
}

func TestP8_2CoversOfEach(t *testing.T) {
	for _, z := range allLists() {
		for _, key := range append(texts(3, "ab"), "A", "aA", "\xff\xff", "k0", "k003", "k0031", "c") {
			checkCovers(t, z, key, beginsAny(key, z))
		}
	}
}

func TestP8_3Known(t *testing.T) {
	a, b := []string{"a", "c/d"}, []string{"a/b", "c"}
	checkInter(t, a, b, []string{"a/b", "c/d"})
	checkInter(t, b, a, []string{"a/b", "c/d"})
	checkUnion(t, a, b, []string{"a", "c"}, api.OK)
	checkUnion(t, b, a, []string{"a", "c"}, api.OK)
	checkWithout(t, a, b, []string{"a"})
	checkWithout(t, b, a, []string{"c"})
	checkWithin(t, a, b, false)
	checkWithin(t, b, a, false)
	checkWithin(t, []string{"a/b", "c/d"}, a, true)
	checkWithin(t, []string{"a/b", "c/d"}, b, true)
	checkWithin(t, a, []string{"a/b", "c/d"}, false)
	checkWithin(t, []string{"a", "b"}, []string{"a", "c"}, false)
	checkInter(t, []string{"a", "b"}, []string{"b", "c"}, []string{"b"})
	checkInter(t, []string{"a"}, []string{"b"}, nil)
	checkInter(t, []string{""}, []string{"b", "c"}, []string{"b", "c"})
	checkWithout(t, []string{"a", "b", "c"}, []string{"b"}, []string{"a", "c"})
	checkWithout(t, []string{"a/b", "a/c", "b"}, []string{"a"}, []string{"b"})
	checkWithout(t, []string{"a/b", "b"}, []string{"a/b/c"}, []string{"a/b", "b"})
	checkWithout(t, []string{""}, []string{"a"}, []string{""})
	checkWithout(t, []string{"a"}, []string{""}, nil)
	checkWithout(t, []string{""}, []string{""}, nil)
}

func TestP8_3UnionIsTooLong(t *testing.T) {
	eight := []string{"a", "b", "c", "d", "e", "f", "g", "h"}
	checkUnion(t, eight, []string{"i"}, nil, api.ErrLong)
	checkUnion(t, []string{"0"}, eight, nil, api.ErrLong)
	checkUnion(t, eight, digits(8), nil, api.ErrLong)
	checkUnion(t, eight[:4], eight[4:], eight, api.OK)
	checkUnion(t, eight, eight, eight, api.OK)
	checkUnion(t, eight, []string{"a/b", "hh"}, eight, api.OK)
	checkUnion(t, digits(8), []string{"k", "m"}, []string{"k", "m"}, api.OK)
	checkUnion(t, digits(8), []string{""}, []string{""}, api.OK)
	checkUnion(t, digits(9), nil, nil, api.ErrLong)
	checkUnion(t, nil, digits(9), nil, api.ErrLong)
	checkUnion(t, digits(9), []string{"k00"}, []string{"k00"}, api.OK)
}

func TestP8_3UnionIsRefusedForOneWrong(t *testing.T) {
	for _, s := range noPrefixes() {
		for _, l := range [][]string{nil, {""}, {"a"}, {"a", "c"}, digits(8), digits(9)} {
			for at := range len(l) + 1 {
				wrong := slices.Insert(slices.Clone(l), at, s)
				for _, other := range [][]string{nil, {"b"}, {""}, digits(20), wrong} {
					checkUnion(t, wrong, other, nil, api.ErrForm)
					checkUnion(t, other, wrong, nil, api.ErrForm)
				}
			}
		}
	}
}

func TestP8_3InterMayBeLong(t *testing.T) {
	// What two zones have in common may be more than MaxZone prefixes, and is told in full.
	a := []string{"a", "b0", "b1", "b2", "b3", "b4", "b5", "b6"}
	b := []string{"a0", "a1", "a2", "a3", "a4", "a5", "a6", "b"}
	checkInter(t, a, b, append(slices.Clone(b[:7]), a[1:]...))
	checkInter(t, b, a, append(slices.Clone(b[:7]), a[1:]...))
	checkInter(t, digits(100), []string{"k"}, digits(100))
	checkWithout(t, digits(100), []string{"k001", "k01"}, slices.Concat(digits(1), digits(10)[2:], digits(100)[20:]))
}

func TestP8_3OfOtherLists(t *testing.T) {
	a := []string{"b", "a", "ab", "b", "A", "\xffx"}
	b := []string{"\xff", "a", "bb", "bb", "AA", "abc"}
	checkInter(t, a, b, []string{"AA", "a", "ab", "abc", "bb", "\xffx"})
	checkInter(t, b, a, []string{"AA", "a", "ab", "abc", "bb", "\xffx"})
	checkWithout(t, a, b, []string{"A", "b"})
	checkWithout(t, b, a, []string{"\xff"})
	checkWithout(t, a, nil, []string{"A", "a", "ab", "b", "\xffx"})
	checkInter(t, a, []string{""}, []string{"A", "a", "ab", "b", "\xffx"})
	checkWithin(t, a, b, false)
	checkWithin(t, []string{"ab", "\xff\xff", "ab", "AA"}, b, true)
	checkWithin(t, []string{"ab", "\xff\xff", "ab", "A"}, b, false)
	long := strings.Repeat("a", 40)
	checkInter(t, []string{long[:20], long}, []string{long[:30], "b"}, []string{long[:30], long})
	checkWithout(t, []string{long, long[:20], long}, []string{long[:30]}, []string{long[:20]})
	checkWithin(t, []string{long, long[:30]}, []string{long[:30], long}, true)
}

func TestP8_3OfNothing(t *testing.T) {
	for _, none := range [][]string{nil, {}} {
		for _, l := range allLists() {
			want, refused := normOf(l)
			checkUnion(t, none, l, want, refused)
			checkUnion(t, l, none, want, refused)
			checkInter(t, none, l, nil)
			checkInter(t, l, none, nil)
			checkWithout(t, none, l, nil)
			checkWithout(t, l, none, restOf(l, nil))
			checkWithin(t, none, l, true)
			checkWithin(t, l, none, len(l) == 0)
		}
	}
}

// checkTwo holds all calls of two lists against what they mean.
func checkTwo(t *testing.T, a, b []string) {
	t.Helper()
	want, refused := normOf(slices.Concat(a, b))
	checkUnion(t, a, b, want, refused)
	checkInter(t, a, b, longerOnes(a, b))
	rest := restOf(a, b)
	checkWithout(t, a, b, rest)
	checkWithin(t, a, b, len(rest) == 0)
}

func TestP8_3OfEachTwo(t *testing.T) {
	short := lists(2, append(texts(2, "ab"), "aba", "A", "aA")...)
	for _, a := range short {
		for _, b := range short {
			checkTwo(t, a, b)
		}
	}
	for _, a := range odd() {
		for _, b := range append(odd(), short[:20]...) {
			checkTwo(t, a, b)
			checkTwo(t, b, a)
		}
	}
}

func TestP8_3OfSome(t *testing.T) {
	for seed := range uint32(3000) {
		a := some(int(seed%9), "ab", seed)
		b := some(int(seed/9%9), "ab", seed+5000)
		checkTwo(t, a, b)
		checkTwo(t, b, a)
		checkTwo(t, a, slices.Concat(b, a))
	}
}

// zones are all zones in their one form of texts of at most two of these bytes, and some of longer ones.
func zones(t *testing.T) [][]string {
	m := map[string]struct{}{}
	var l [][]string
	keep := func(z []string) {
		name := strings.Join(z, " ") + "."
		if _, there := m[name]; !there && isZone(z) {
			m[name] = struct{}{}
			l = append(l, z)
		}
	}
	keep(nil)
	keep([]string{""})
	for _, z := range lists(5, texts(2, "ab")[1:]...) {
		keep(z)
	}
	for _, z := range odd() {
		keep(z)
		keep(leftOf(z))
	}
	for seed := range uint32(60) {
		keep(leftOf(some(int(seed%12), "ab/", seed)))
	}
	if len(l) < 60 {
		t.Fatalf("only %d zones", len(l))
	}
	return l
}

// keysNear are keys enough to tell these lists apart: their own prefixes, what begins with them, and what stands beside them.
func keysNear(l [][]string) []string {
	m := map[string]struct{}{}
	for _, s := range append(texts(3, "ab/c"), slices.Concat(l...)...) {
		for _, key := range []string{s, s + "a", s + "x", s[:len(s)/2], "x" + s} {
			if prefixForm.MatchString(key) && key != "" {
				m[key] = struct{}{}
			}
		}
	}
	return inOrder(m)
}

func TestP8_3LawsOfZones(t *testing.T) {
	l := zones(t)
	keys := keysNear(l)
	for _, a := range l {
		checkUnion(t, a, a, a, api.OK)
		checkUnion(t, a, nil, a, api.OK)
		checkInter(t, a, a, a)
		checkInter(t, a, nil, nil)
		checkInter(t, a, []string{""}, a)
		checkWithout(t, a, a, nil)
		checkWithout(t, a, nil, a)
		checkWithin(t, a, a, true)
		checkWithin(t, a, []string{""}, true)
		for _, b := range l {
			union, err := Union(a, b)
			inter, without := Inter(a, b), Without(a, b)
			for _, key := range keys {
				inA, inB := beginsAny(key, a), beginsAny(key, b)
				if err == api.OK && beginsAny(key, union) != (inA || inB) {
					t.Fatalf("Union of %q and %q: %q, which covers %q: %t", a, b, union, key, !(inA || inB))
				}
				if beginsAny(key, inter) != (inA && inB) {
					t.Fatalf("Inter of %q and %q: %q, which covers %q: %t", a, b, inter, key, !(inA && inB))
				}
				if Within(a, b) && inA && !inB {
					t.Fatalf("%q is within %q, but not %q", a, b, key)
				}
			}
			checkUnion(t, b, a, union, err)
			checkInter(t, b, a, inter)
			checkWithin(t, inter, a, true)
			checkWithin(t, inter, b, true)
			checkInter(t, without, b, longerOnes(without, b))
			if err == api.OK {
				checkRight(t, union, true)
				checkWithin(t, a, union, true)
				checkWithin(t, b, union, true)
			}
			checkRight(t, inter, len(inter) <= 8)
			checkRight(t, without, true)
			if Within(a, b) && Within(b, a) != same(a, b) {
				t.Errorf("%q and %q are within one another, or are the same: not both", a, b)
			}
			if Within(a, b) != same(inter, a) || Within(a, b) != (len(without) == 0) {
				t.Errorf("%q within %q: %t; Inter %q, Without %q", a, b, Within(a, b), inter, without)
			}
		}
	}
}

func TestP8_4NormCoversJustWhatTheListCovers(t *testing.T) {
	l := append(lists(3, texts(2, "ab")...), odd()...)
	keys := keysNear(l)
	l = append(l, strings.Split(letters, ""), texts(2, letters)[1:])
	for _, list := range l {
		z, err := Norm(list)
		if err != api.OK {
			continue
		}
		checkRight(t, z, true)
		if !isZone(z) {
			t.Fatalf("Norm(%.20q) = %.20q, which is no zone in its one form", list, z)
		}
		checkNorm(t, z, z, api.OK)
		for _, key := range keys {
			checkCovers(t, z, key, beginsAny(key, list))
		}
	}
}

func TestP8_4SameIfTheyCoverTheSame(t *testing.T) {
	l := zones(t)
	keys := keysNear(l)
	covered := map[string][]string{}
	for _, z := range l {
		bits := make([]byte, len(keys))
		for i, key := range keys {
			if Covers(z, key) {
				bits[i] = 1
			}
		}
		if other, there := covered[string(bits)]; there {
			t.Errorf("%q and %q are not the same, but cover the same", z, other)
		}
		covered[string(bits)] = z
	}
}

func TestP8_4SameNormIfTheyCoverTheSame(t *testing.T) {
	l, keys := lists(3, texts(2, "ab")...), texts(3, "abc")[1:]
	covered := map[string][]string{}
	for _, list := range l {
		bits := make([]byte, len(keys))
		for i, key := range keys {
			if beginsAny(key, list) {
				bits[i] = 1
			}
		}
		if other, there := covered[string(bits)]; there {
			checkNorm(t, list, other, api.OK)
			continue
		}
		z, err := Norm(list)
		if err != api.OK {
			t.Fatalf("Norm(%q): %d", list, err)
		}
		covered[string(bits)] = z
	}
}

// spare are arguments that lie in one array, one behind the other, each with all that follows as its spare room.
func spare(l ...[]string) ([]string, [][]string) {
	whole := append(slices.Concat(l...), "s1", "s2", "s3", "s0", "A", "s1", "", "s4", "s5", "s9")
	laid, from := [][]string{}, 0
	for _, z := range l {
		laid = append(laid, whole[from:from+len(z)])
		from += len(z)
	}
	return whole, laid
}

// checkApart turns an answer, spare room and all, and asks that it changes nothing there.
func checkApart(t *testing.T, what string, whole, before, answer []string) {
	t.Helper()
	if !slices.Equal(whole, before) {
		t.Fatalf("%s: what was handed in, or its spare room, was changed: %q; want %q", what, whole, before)
	}
	for i := range answer[:cap(answer)] {
		answer[:cap(answer)][i] = "turned"
	}
	if !slices.Equal(whole, before) {
		t.Fatalf("%s: the answer shares memory with what was handed in: %q; want %q", what, whole, before)
	}
}

func TestP8_2NothingIsChangedOrShared(t *testing.T) {
	for _, list := range append(lists(4, "b", "", "ab", "a", "A"), odd()...) {
		whole, l := spare(list)
		before := slices.Clone(whole)
		got, _ := Norm(l[0])
		checkApart(t, "Norm", whole, before, got)
		Right(l[0])
		Covers(l[0], "ab")
		checkApart(t, "Right or Covers", whole, before, nil)
	}
}

func TestP8_3NothingIsChangedOrShared(t *testing.T) {
	all := lists(3, "b", "", "ab", "a", "A")
	for _, a := range all {
		for _, b := range all {
			whole, l := spare(a, b)
			before := slices.Clone(whole)
			got, _ := Union(l[0], l[1])
			checkApart(t, "Union", whole, before, got)
			got, _ = Union(l[0], l[0])
			checkApart(t, "Union with itself", whole, before, got)
			checkApart(t, "Inter", whole, before, Inter(l[0], l[1]))
			checkApart(t, "Inter with itself", whole, before, Inter(l[1], l[1]))
			checkApart(t, "Without", whole, before, Without(l[0], l[1]))
			checkApart(t, "Without itself", whole, before, Without(l[0], l[0]))
			Within(l[0], l[1])
			checkApart(t, "Within", whole, before, nil)
		}
	}
}

func TestP8_3AnswersAreApart(t *testing.T) {
	// Each call answers memory of its own, also where the answer is what was handed in.
	z := []string{"a", "b", "c"}
	answers := func() [][]string {
		norm, _ := Norm(z)
		union, _ := Union(z, z)
		all, _ := Norm([]string{""})
		left, _ := Union(z, nil)
		right, _ := Union(nil, z)
		return [][]string{norm, union, all, left, right, Inter(z, z), Inter(z, []string{""}), Without(z, nil)}
	}
	first, second := answers(), answers()
	for _, l := range first {
		for i := range l[:cap(l)] {
			l[:cap(l)][i] = "turned"
		}
	}
	for i, l := range second {
		want := z
		if i == 2 {
			want = []string{""}
		}
		if !same(l, want) {
			t.Errorf("answer %d is %q behind a change of another one; want %q", i, l, want)
		}
	}
}

func TestP8_3LongLists(t *testing.T) {
	l := texts(3, letters)[1+len(letters)+len(letters)*len(letters):]
	longer := make([]string, len(l))
	for i, s := range l {
		longer[len(l)-1-i] = s + "x"
	}
	checkNorm(t, l, nil, api.ErrLong)
	checkUnion(t, l, longer, nil, api.ErrLong)
	checkUnion(t, l, []string{""}, []string{""}, api.OK)
	checkWithin(t, longer, l, true)
	checkWithin(t, l, longer, false)
	checkWithout(t, longer, l, nil)
	checkWithout(t, l, longer, l)
	inter := Inter(l, longer)
	slices.Reverse(longer)
	if !slices.Equal(inter, longer) {
		t.Errorf("Inter has %d texts; want %d", len(inter), len(longer))
	}
	checkWithout(t, append(longer, l...), l[1:], []string{l[0], l[0] + "x"})
}
