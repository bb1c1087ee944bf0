package bin

import (
	"bytes"
	"encoding/binary"
	"math"
	"slices"
	"strings"
	"testing"

	"buttery/api"
)

const topNum = 1<<56 - 1

// numbers are those at which a form's length may turn, and others.
func numbers() []int {
	l := []int{0, 1, 2, 42, 300, api.MaxText, api.MaxText + 1, api.MaxSeq, topNum / 2, topNum / 3}
	for bits := 1; bits <= 56; bits++ {
		l = append(l, 1<<bits-2, 1<<bits-1)
		if bits < 56 {
			l = append(l, 1<<bits, 1<<bits+1)
		}
	}
	seed := uint64(7)
	for range 2000 {
		seed = seed*6364136223846793005 + 1442695040888963407
		l = append(l, int(seed>>8>>(seed%56)))
	}
	return l
}

// notNumbers are those beyond the ends.
func notNumbers() []int {
	return []int{-1, -2, -300, math.MinInt, math.MinInt + 1, -topNum, -topNum - 1, topNum + 1, topNum + 2, 1<<57 - 1, 1 << 62, math.MaxInt}
}

// wholes are whole numbers: the ends, single bits and others.
func wholes() []int64 {
	l := []int64{0, 1, -1, 2, -2, 300, -300, math.MaxInt64, math.MaxInt64 - 1, math.MinInt64, math.MinInt64 + 1, 0x0102030405060708, -0x0102030405060708}
	for i := range 64 {
		l = append(l, 1<<i, -1<<i, ^(1 << i))
	}
	seed := uint64(3)
	for range 500 {
		seed = seed*6364136223846793005 + 1442695040888963407
		l = append(l, int64(seed)>>(seed%64))
	}
	return l
}

// texts are texts of all lengths at which something may turn, with bytes of all kinds.
func texts() []string {
	l := []string{"", "a", "ab", "\x00", "\x80", "\xff\xfe", "a/b", "\u00e4\u20ac", strings.Repeat("\x80", 9)}
	for _, n := range []int{2, 9, 127, 128, 129, 255, 256, 300, 1<<14 - 1, 1 << 14, 1<<14 + 1, api.MaxText - 1, api.MaxText} {
		l = append(l, someText(n))
	}
	return l
}

// someText is n bytes of all kinds, always the same.
func someText(n int) string {
	b := make([]byte, n)
	state := uint32(n) + 1
	for i := range b {
		state = state*1664525 + 1013904223
		b[i] = byte(state >> 24)
	}
	return string(b)
}

// tails are bytes that may stand ahead of a form, or behind it.
func tails() [][]byte {
	return [][]byte{nil, {}, {0}, {1}, {0x80}, {0xff, 0x7f}, []byte("xyz"), bytes.Repeat([]byte{0x80}, 9), bytes.Repeat([]byte{0}, 20)}
}

// shortLists are all lists of at most n of some bytes.
func shortLists(n int, of ...byte) [][]byte {
	all := [][]byte{{}}
	last := all
	for range n {
		var longer [][]byte
		for _, b := range last {
			for _, c := range of {
				longer = append(longer, append(bytes.Clone(b), c))
			}
		}
		all = append(all, longer...)
		last = longer
	}
	return all
}

// lists are lists of bytes that begin in all ways in which a number may, or may not.
func lists() [][]byte {
	all := shortLists(9, 0x00, 0x7f, 0x80)
	every := make([]byte, 256)
	for i := range every {
		every[i] = byte(i)
	}
	return append(all, shortLists(2, every...)...)
}

// numAt is the number at the beginning of b, by the library's numbers.
func numAt(b []byte) (n, size int, err api.Errno) {
	v, size := binary.Uvarint(b[:min(len(b), 8)])
	switch {
	case size == 0 && len(b) < 8:
		return 0, 0, api.ErrShort
	case size <= 0 || !bytes.Equal(binary.AppendUvarint(nil, v), b[:size]):
		return 0, 0, api.ErrForm
	}
	return int(v), size, api.OK
}

// many is n times the same byte, and others behind it.
func many(c byte, n int, more ...byte) []byte {
	return append(bytes.Repeat([]byte{c}, n), more...)
}

func checkPutNum(t *testing.T, b []byte, n int) {
	t.Helper()
	want := slices.Concat(b, binary.AppendUvarint(nil, uint64(n)))
	if got, err := PutNum(b, n); !bytes.Equal(got, want) || err != api.OK {
		t.Errorf("PutNum(%x, %d) = %x, %d; want %x", b, n, got, err, want)
	}
}

func checkNum(t *testing.T, b []byte, n int, rest []byte, want api.Errno) {
	t.Helper()
	got, gotRest, err := Num(b)
	if got != n || !bytes.Equal(gotRest, rest) || err != want {
		t.Errorf("Num(%x) = %d, %x, %d; want %d, %x, %d", b, got, gotRest, err, n, rest, want)
	}
}

func checkText(t *testing.T, b []byte, s string, rest []byte, want api.Errno) {
	t.Helper()
	got, gotRest, err := Text(b)
	if got != s || !bytes.Equal(gotRest, rest) || err != want {
		t.Errorf("Text(%d bytes %.20x) = %d bytes %.20x, %d bytes %.20x, %d; want %d bytes %.20x, %d bytes %.20x, %d",
			len(b), b, len(got), got, len(gotRest), gotRest, err, len(s), s, len(rest), rest, want)
	}
}

func TestP3_1PutNumKnown(t *testing.T) {
	for _, c := range []struct {
		n    int
		want []byte
	}{
		{0, []byte{0}},
		{1, []byte{1}},
		{42, []byte{42}},
		{127, []byte{0x7f}},
		{128, []byte{0x80, 0x01}},
		{300, []byte{0xac, 0x02}},
		{1<<14 - 1, []byte{0xff, 0x7f}},
		{1 << 14, []byte{0x80, 0x80, 0x01}},
		{1 << 16, []byte{0x80, 0x80, 0x04}},
		{1 << 49, many(0x80, 7, 0x01)},
		{topNum - 1, append([]byte{0xfe}, many(0xff, 6, 0x7f)...)},
		{topNum, many(0xff, 7, 0x7f)},
	} {
		if got, err := PutNum(nil, c.n); !bytes.Equal(got, c.want) || err != api.OK {
			t.Errorf("PutNum(nil, %d) = %x, %d; want %x", c.n, got, err, c.want)
		}
	}
}

func TestP3_1PutNumEachLength(t *testing.T) {
	for size := 1; size <= 8; size++ {
		least, greatest := 1<<(7*(size-1)), 1<<(7*size)-1
		if size == 1 {
			least = 0
		}
		for _, n := range []int{least, least + 1, (least + greatest) / 2, greatest - 1, greatest} {
			b, err := PutNum(nil, n)
			if len(b) != size || err != api.OK {
				t.Errorf("PutNum(nil, %d) = %x, %d; want %d bytes", n, b, err, size)
				continue
			}
			for i, c := range b {
				if more := c >= 0x80; more != (i < size-1) {
					t.Errorf("PutNum(nil, %d) = %x: the highest bit of byte %d is wrong", n, b, i)
				}
			}
			checkPutNum(t, nil, n)
		}
	}
}

func TestP3_1PutNumBehind(t *testing.T) {
	for _, n := range numbers() {
		for _, b := range tails() {
			checkPutNum(t, b, n)
		}
	}
	for n := range 70000 {
		checkPutNum(t, nil, n)
	}
}

func TestP3_1PutNumOfNone(t *testing.T) {
	for _, n := range notNumbers() {
		for _, b := range tails() {
			if got, err := PutNum(b, n); len(got) != 0 || err != api.ErrArg {
				t.Errorf("PutNum(%x, %d) = %x, %d; want nothing, ErrArg", b, n, got, err)
			}
		}
	}
}

func TestP3_1PutIntKnown(t *testing.T) {
	for _, c := range []struct {
		n    int64
		want []byte
	}{
		{0, make([]byte, 8)},
		{1, []byte{1, 0, 0, 0, 0, 0, 0, 0}},
		{-1, many(0xff, 8)},
		{-2, []byte{0xfe, 0xff, 0xff, 0xff, 0xff, 0xff, 0xff, 0xff}},
		{300, []byte{0x2c, 1, 0, 0, 0, 0, 0, 0}},
		{0x0102030405060708, []byte{8, 7, 6, 5, 4, 3, 2, 1}},
		{math.MaxInt64, many(0xff, 7, 0x7f)},
		{math.MinInt64, []byte{0, 0, 0, 0, 0, 0, 0, 0x80}},
	} {
		if got := PutInt(nil, c.n); !bytes.Equal(got, c.want) {
			t.Errorf("PutInt(nil, %d) = %x; want %x", c.n, got, c.want)
		}
	}
}

func TestP3_1PutIntBehind(t *testing.T) {
	for _, n := range wholes() {
		for _, b := range tails() {
			want := binary.LittleEndian.AppendUint64(bytes.Clone(b), uint64(n))
			if got := PutInt(b, n); !bytes.Equal(got, want) {
				t.Errorf("PutInt(%x, %d) = %x; want %x", b, n, got, want)
			}
		}
	}
}

func TestP3_1PutTextKnown(t *testing.T) {
	for _, c := range []struct {
		s    string
		want []byte
	}{
		{"", []byte{0}},
		{"a", []byte("\x01a")},
		{"ab", []byte{0x02, 0x61, 0x62}},
		{"\x00\xff", []byte{2, 0, 0xff}},
		{strings.Repeat("x", 127), append([]byte{0x7f}, many('x', 127)...)},
		{strings.Repeat("x", 128), append([]byte{0x80, 1}, many('x', 128)...)},
		{strings.Repeat("x", api.MaxText), append([]byte{0x80, 0x80, 4}, many('x', 1<<16)...)},
	} {
		if got, err := PutText(nil, c.s); !bytes.Equal(got, c.want) || err != api.OK {
			t.Errorf("PutText(nil, %d bytes) = %d bytes %.20x, %d; want %d bytes %.20x", len(c.s), len(got), got, err, len(c.want), c.want)
		}
	}
}

func TestP3_1PutTextBehind(t *testing.T) {
	for _, s := range texts() {
		for _, b := range tails() {
			want := slices.Concat(b, binary.AppendUvarint(nil, uint64(len(s))), []byte(s))
			if got, err := PutText(b, s); !bytes.Equal(got, want) || err != api.OK {
				t.Errorf("PutText(%x, %d bytes) = %d bytes %.20x, %d; want %d bytes %.20x", b, len(s), len(got), got, err, len(want), want)
			}
		}
	}
}

func TestP3_1PutTextTooLong(t *testing.T) {
	for _, n := range []int{api.MaxText + 1, api.MaxText + 2, 2 * api.MaxText, 1 << 20} {
		for _, b := range tails() {
			if got, err := PutText(b, strings.Repeat("x", n)); len(got) != 0 || err != api.ErrLong {
				t.Errorf("PutText(%x, %d bytes) = %d bytes, %d; want nothing, ErrLong", b, n, len(got), err)
			}
		}
	}
}

// puts puts one form of each kind behind b.
func puts(b []byte) [][]byte {
	num, _ := PutNum(b, 300)
	zero, _ := PutNum(b, 0)
	text, _ := PutText(b, "ab")
	empty, _ := PutText(b, "")
	return [][]byte{num, zero, PutInt(b, -2), text, empty}
}

func TestP3_1SpareRoomStays(t *testing.T) {
	whole := []byte(someText(64))
	before := bytes.Clone(whole)
	b := whole[10:20]
	first := puts(b)
	kept := make([][]byte, len(first))
	for i := range first {
		kept[i] = bytes.Clone(first[i])
	}
	if !bytes.Equal(whole, before) {
		t.Error("the bytes, or their spare room, were changed")
	}
	puts(b)
	for i := range b {
		b[i]++
	}
	for i := range first {
		if !bytes.Equal(first[i], kept[i]) {
			t.Errorf("answer %d shares memory with what was handed in, or with a later answer", i)
		}
	}
	before = bytes.Clone(whole)
	for _, answer := range first {
		for i := range answer[:cap(answer)] {
			answer[:cap(answer)][i] ^= 0xff
		}
	}
	if !bytes.Equal(whole, before) {
		t.Error("an answer shares memory with what was handed in")
	}
}

func TestP3_2NumKnown(t *testing.T) {
	checkNum(t, []byte{0}, 0, nil, api.OK)
	checkNum(t, []byte{0, 0}, 0, []byte{0}, api.OK)
	checkNum(t, []byte{1}, 1, nil, api.OK)
	checkNum(t, []byte{0x7f, 0x80}, 127, []byte{0x80}, api.OK)
	checkNum(t, []byte{0x80, 0x01}, 128, nil, api.OK)
	checkNum(t, []byte{0xac, 0x02}, 300, nil, api.OK)
	checkNum(t, []byte{0xac, 0x02, 0x03}, 300, []byte{3}, api.OK)
	checkNum(t, many(0x80, 7, 1), 1<<49, nil, api.OK)
	checkNum(t, many(0xff, 7, 0x7f), topNum, nil, api.OK)
	checkNum(t, many(0xff, 7, 0x7f, 0xff, 0), topNum, []byte{0xff, 0}, api.OK)
}

func TestP3_2NumTooShort(t *testing.T) {
	checkNum(t, nil, 0, nil, api.ErrShort)
	checkNum(t, []byte{}, 0, nil, api.ErrShort)
	checkNum(t, []byte{0x80}, 0, nil, api.ErrShort)
	checkNum(t, []byte{0xac}, 0, nil, api.ErrShort)
	for n := range 8 {
		checkNum(t, many(0x80, n), 0, nil, api.ErrShort)
		checkNum(t, many(0xff, n), 0, nil, api.ErrShort)
	}
	for _, n := range numbers() {
		form := binary.AppendUvarint(nil, uint64(n))
		for i := range form {
			checkNum(t, form[:i], 0, nil, api.ErrShort)
		}
	}
	// What lies in the spare room isn't there.
	checkNum(t, []byte{0x80, 0x01}[:1], 0, nil, api.ErrShort)
}

func TestP3_2NumNotInItsForm(t *testing.T) {
	checkNum(t, []byte{0x80, 0x00}, 0, nil, api.ErrForm)
	checkNum(t, []byte{0x80, 0x00, 0x01}, 0, nil, api.ErrForm)
	checkNum(t, []byte{0xac, 0x82, 0x00}, 0, nil, api.ErrForm)
	for n := 1; n < 8; n++ {
		checkNum(t, many(0x80, n, 0), 0, nil, api.ErrForm)
		checkNum(t, many(0xff, n, 0), 0, nil, api.ErrForm)
		checkNum(t, many(0xff, n, 0, 5, 6), 0, nil, api.ErrForm)
	}
	for n := 8; n < 20; n++ {
		checkNum(t, many(0x80, n), 0, nil, api.ErrForm)
		checkNum(t, many(0xff, n), 0, nil, api.ErrForm)
		checkNum(t, many(0x80, n, 0), 0, nil, api.ErrForm)
		checkNum(t, many(0x80, n, 1), 0, nil, api.ErrForm)
		checkNum(t, many(0xff, n, 0x7f, 7), 0, nil, api.ErrForm)
	}
	checkNum(t, many(0x81, 7, 0x80), 0, nil, api.ErrForm)
	checkNum(t, many(0x81, 7, 0xff, 1), 0, nil, api.ErrForm)
}

func TestP3_2NumOfAnyBytes(t *testing.T) {
	for _, b := range lists() {
		n, size, err := numAt(b)
		var rest []byte
		if err == api.OK {
			rest = b[size:]
		}
		checkNum(t, b, n, rest, err)
	}
}

func TestP3_2IntKnown(t *testing.T) {
	for _, c := range []struct {
		b    []byte
		n    int64
		rest []byte
	}{
		{make([]byte, 8), 0, nil},
		{[]byte{1, 0, 0, 0, 0, 0, 0, 0}, 1, nil},
		{[]byte{8, 7, 6, 5, 4, 3, 2, 1}, 0x0102030405060708, nil},
		{many(0xff, 8), -1, nil},
		{[]byte{0, 0, 0, 0, 0, 0, 0, 0x80}, math.MinInt64, nil},
		{many(0xff, 7, 0x7f), math.MaxInt64, nil},
		{many(0xff, 7, 0x7f, 9), math.MaxInt64, []byte{9}},
		{many(0xff, 17), -1, many(0xff, 9)},
	} {
		n, rest, err := Int(c.b)
		if n != c.n || !bytes.Equal(rest, c.rest) || err != api.OK {
			t.Errorf("Int(%x) = %d, %x, %d; want %d, %x", c.b, n, rest, err, c.n, c.rest)
		}
	}
}

func TestP3_2IntTooShort(t *testing.T) {
	for _, c := range []byte{0, 1, 0x80, 0xff} {
		for size := range 8 {
			// What lies in the spare room isn't there.
			for _, b := range [][]byte{many(c, size), many(c, 16)[:size]} {
				if n, rest, err := Int(b); n != 0 || len(rest) != 0 || err != api.ErrShort {
					t.Errorf("Int(%x) = %d, %x, %d; want 0, nothing, ErrShort", b, n, rest, err)
				}
			}
		}
	}
	if n, rest, err := Int(nil); n != 0 || len(rest) != 0 || err != api.ErrShort {
		t.Errorf("Int(nil) = %d, %x, %d; want 0, nothing, ErrShort", n, rest, err)
	}
}

func TestP3_2TextKnown(t *testing.T) {
	checkText(t, []byte{0}, "", nil, api.OK)
	checkText(t, []byte{0, 0x61}, "", []byte("a"), api.OK)
	checkText(t, []byte{0x02, 0x61, 0x62}, "ab", nil, api.OK)
	checkText(t, []byte{0x02, 0x61, 0x62, 0x63}, "ab", []byte("c"), api.OK)
	checkText(t, []byte{2, 0x80, 0, 0x80}, "\x80\x00", []byte{0x80}, api.OK)
	checkText(t, append([]byte{0x80, 1}, many('x', 130)...), strings.Repeat("x", 128), []byte("xx"), api.OK)
	longest := append([]byte{0x80, 0x80, 4}, many('x', api.MaxText+3)...)
	checkText(t, longest[:3+api.MaxText], strings.Repeat("x", api.MaxText), nil, api.OK)
	checkText(t, longest, strings.Repeat("x", api.MaxText), []byte("xxx"), api.OK)
}

func TestP3_2TextTooShort(t *testing.T) {
	checkText(t, []byte{1}, "", nil, api.ErrShort)
	checkText(t, []byte{2, 'a'}, "", nil, api.ErrShort)
	checkText(t, []byte{2, 'a', 'b'}[:2], "", nil, api.ErrShort)
	checkText(t, []byte{0x80, 0x80, 4}, "", nil, api.ErrShort)
	for _, s := range texts() {
		form := slices.Concat(binary.AppendUvarint(nil, uint64(len(s))), []byte(s))
		step := max(1, len(form)/500)
		for i := 0; i < len(form); i += step {
			checkText(t, form[:i], "", nil, api.ErrShort)
		}
		checkText(t, form[:len(form)-1], "", nil, api.ErrShort)
	}
}

func TestP3_2TextTooLong(t *testing.T) {
	for _, n := range []int{api.MaxText + 1, api.MaxText + 2, 1 << 17, 1 << 31, 1 << 32, 1<<32 + 2, topNum - 1, topNum} {
		form := binary.AppendUvarint(nil, uint64(n))
		checkText(t, form, "", nil, api.ErrLong)
		checkText(t, append(form, "ab"...), "", nil, api.ErrLong)
	}
	// All that is told is there, and more.
	there := append(binary.AppendUvarint(nil, api.MaxText+1), many('x', api.MaxText+9)...)
	for _, more := range []int{0, 1, api.MaxText - 1, api.MaxText, api.MaxText + 1, api.MaxText + 2} {
		checkText(t, there[:3+more], "", nil, api.ErrLong)
	}
}

func TestP3_2TextNumbersErrorsFirst(t *testing.T) {
	checkText(t, nil, "", nil, api.ErrShort)
	checkText(t, []byte{}, "", nil, api.ErrShort)
	checkText(t, []byte{0x80, 0x00}, "", nil, api.ErrForm)
	checkText(t, []byte{0x82, 0x00, 'a', 'b'}, "", nil, api.ErrForm)
	// Great enough to be too long, but none, or not whole.
	checkText(t, many(0xff, 8), "", nil, api.ErrForm)
	checkText(t, many(0xff, 8, 1), "", nil, api.ErrForm)
	checkText(t, many(0xff, 5, 0), "", nil, api.ErrForm)
	checkText(t, many(0xff, 7), "", nil, api.ErrShort)
	checkText(t, many(0xff, 4), "", nil, api.ErrShort)
	for _, b := range lists() {
		n, size, err := numAt(b)
		switch {
		case err != api.OK:
			checkText(t, b, "", nil, err)
		case n > api.MaxText:
			checkText(t, b, "", nil, api.ErrLong)
		case n > len(b)-size:
			checkText(t, b, "", nil, api.ErrShort)
		default:
			checkText(t, b, string(b[size:size+n]), b[size+n:], api.OK)
		}
	}
}

func TestP3_2BytesStay(t *testing.T) {
	whole := slices.Concat([]byte{2, 'a', 'b'}, many(7, 30), many(9, 5))
	before := bytes.Clone(whole)
	b := whole[:33]
	_, numRest, _ := Num(b)
	_, intRest, _ := Int(b)
	text, textRest, _ := Text(b)
	rests := [][]byte{numRest, intRest, textRest}
	if !bytes.Equal(whole, before) {
		t.Fatal("the bytes, or their spare room, were changed")
	}
	for i, skip := range []int{1, 8, 3} {
		if !bytes.Equal(rests[i], b[skip:]) {
			t.Fatalf("rest %d is %x; want %x", i, rests[i], b[skip:])
		}
		rest := rests[i][:cap(rests[i])]
		for j := range rest {
			rest[j] ^= 0xff
		}
	}
	if !bytes.Equal(whole, before) {
		t.Error("a rest shares memory with what was handed in")
	}
	for i := range whole {
		whole[i] ^= 0xff
	}
	if text != "ab" {
		t.Errorf("a text shares memory with what was handed in: it is %q now", text)
	}
}

func TestP3_3WhatWasPutIsRead(t *testing.T) {
	for _, tail := range tails() {
		for _, n := range numbers() {
			form, _ := PutNum(nil, n)
			checkNum(t, append(form, tail...), n, tail, api.OK)
		}
		for _, s := range texts() {
			form, _ := PutText(nil, s)
			checkText(t, append(form, tail...), s, tail, api.OK)
		}
		for _, n := range wholes() {
			b := append(PutInt(nil, n), tail...)
			if got, rest, err := Int(b); got != n || !bytes.Equal(rest, tail) || err != api.OK {
				t.Errorf("Int(%x) = %d, %x, %d; want %d, %x", b, got, rest, err, n, tail)
			}
		}
	}
}

func TestP3_3OneBehindTheOther(t *testing.T) {
	var b []byte
	for i, n := range wholes() {
		b, _ = PutNum(b, numbers()[i])
		b = PutInt(b, n)
		b, _ = PutText(b, someText(i))
	}
	for i, n := range wholes() {
		num, rest, err := Num(b)
		if num != numbers()[i] || err != api.OK {
			t.Fatalf("number %d is %d, %d; want %d", i, num, err, numbers()[i])
		}
		whole, rest, err := Int(rest)
		if whole != n || err != api.OK {
			t.Fatalf("whole number %d is %d, %d; want %d", i, whole, err, n)
		}
		text, rest, err := Text(rest)
		if text != someText(i) || err != api.OK {
			t.Fatalf("text %d is %x, %d; want %x", i, text, err, someText(i))
		}
		b = rest
	}
	if len(b) != 0 {
		t.Errorf("%x is left; want nothing", b)
	}
}

func TestP3_3WhatIsReadIsPutAsItStood(t *testing.T) {
	read := 0
	for _, b := range lists() {
		if n, rest, err := Num(b); err == api.OK {
			read++
			if put, err := PutNum(nil, n); !bytes.Equal(append(put, rest...), b) || err != api.OK {
				t.Errorf("%x is read as %d, and put as %x, %d", b, n, put, err)
			}
		}
		if s, rest, err := Text(b); err == api.OK {
			read++
			if put, err := PutText(nil, s); !bytes.Equal(append(put, rest...), b) || err != api.OK {
				t.Errorf("%x is read as %q, and put as %x, %d", b, s, put, err)
			}
		}
		if n, rest, err := Int(b); err == api.OK {
			read++
			if put := PutInt(nil, n); !bytes.Equal(append(put, rest...), b) {
				t.Errorf("%x is read as %d, and put as %x", b, n, put)
			}
		}
	}
	if read < 1000 {
		t.Errorf("just %d of the lists were read", read)
	}
}
