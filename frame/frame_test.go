package frame

import (
	"bytes"
	"encoding/binary"
	"hash/crc32"
	"slices"
	"testing"

	"buttery/api"
)

// frameAs is a number, the sum of it and p by the library, and p.
func frameAs(number uint32, p []byte) []byte {
	b := binary.LittleEndian.AppendUint32(nil, number)
	b = binary.LittleEndian.AppendUint32(b, crc32.ChecksumIEEE(append(bytes.Clone(b), p...)))
	return append(b, p...)
}

// frameOf is the frame of p.
func frameOf(p []byte) []byte {
	return frameAs(uint32(len(p)), p)
}

// some is n bytes of all kinds, always the same for n and seed.
func some(n int, seed uint32) []byte {
	b := make([]byte, n)
	state := uint32(n)*7919 + seed
	for i := range b {
		state = state*1664525 + 1013904223
		b[i] = byte(state >> 24)
	}
	return b
}

// records are of all lengths at which something may turn.
func records() [][]byte {
	l := [][]byte{nil, {}, {0}, {1}, {0x80}, {0xff}, make([]byte, 8), make([]byte, 300), bytes.Repeat([]byte{0xff}, 20), frameOf(nil), frameOf([]byte("ab"))}
	for _, n := range []int{2, 3, 4, 5, 7, 8, 9, 12, 100, 127, 128, 255, 256, 257, 1000, 1<<16 - 1, 1 << 16, 1<<16 + 1, api.MaxFrame - 1, api.MaxFrame} {
		l = append(l, some(n, 1))
	}
	return l
}

// tails are bytes that may stand ahead of a frame.
func tails() [][]byte {
	return [][]byte{nil, {}, {0}, {0xff}, []byte("xyz"), make([]byte, 8), frameOf(nil), frameOf([]byte("abc")), some(50, 2)}
}

// noFrames are bytes at whose beginning no frame stands.
func noFrames() [][]byte {
	l := [][]byte{nil, {}, {0}, {0x1c}, make([]byte, 4), make([]byte, 7), make([]byte, 8), make([]byte, 300), bytes.Repeat([]byte{0xff}, 8), bytes.Repeat([]byte{0xff}, 300), []byte("a record"), some(40, 3)}
	whole := frameOf([]byte("abcdef"))
	for n := range whole {
		l = append(l, whole[:n])
	}
	return l
}

// rows are records whose frames stand one behind the other.
func rows() [][][]byte {
	l := [][][]byte{
		{nil},
		{[]byte("a")},
		{[]byte("abc"), nil},
		{nil, []byte("abc")},
		{nil, nil, nil, nil},
		{[]byte("one"), []byte("two"), []byte("three")},
		{some(9, 1), frameOf([]byte("within")), make([]byte, 16), some(20, 4), {0}},
		{some(127, 5), some(256, 6), some(64, 7)},
	}
	var long [][]byte
	for n := range 40 {
		long = append(long, some(n*n%23, uint32(n)))
	}
	return append(l, long)
}

// joined are the frames of a row, and where each one ends.
func joined(row [][]byte) (b []byte, ends []int) {
	for _, p := range row {
		b = append(b, frameOf(p)...)
		ends = append(ends, len(b))
	}
	return b, ends
}

func same(a, b [][]byte) bool {
	return slices.EqualFunc(a, b, bytes.Equal)
}

func checkLay(t *testing.T, b, p []byte) {
	t.Helper()
	want := slices.Concat(b, frameOf(p))
	if got, err := Lay(b, p); !bytes.Equal(got, want) || err != api.OK {
		t.Errorf("Lay(%d bytes, %d bytes %.20x) = %d bytes %.60x, %d; want %d bytes %.60x", len(b), len(p), p, len(got), got, err, len(want), want)
	}
}

func checkScan(t *testing.T, b []byte, want [][]byte, size int) {
	t.Helper()
	if got, n := Scan(b); !same(got, want) || n != size {
		t.Errorf("Scan(%d bytes %.60x) = %d records, %d; want %d records, %d", len(b), b, len(got), n, len(want), size)
	}
}

// checkNone asks for nothing, whatever stands behind.
func checkNone(t *testing.T, b []byte) {
	t.Helper()
	checkScan(t, b, nil, 0)
	checkScan(t, slices.Concat(frameOf([]byte("ahead")), b), [][]byte{[]byte("ahead")}, 13)
}

func TestP4_1Known(t *testing.T) {
	for _, c := range []struct {
		b, p, want []byte
	}{
		{nil, nil, []byte{0, 0, 0, 0, 0x1c, 0xdf, 0x44, 0x21}},
		{nil, []byte{}, []byte{0, 0, 0, 0, 0x1c, 0xdf, 0x44, 0x21}},
		{[]byte{7, 8}, nil, []byte{7, 8, 0, 0, 0, 0, 0x1c, 0xdf, 0x44, 0x21}},
		// The sum of 03 00 00 00 61 62 63 is 66e15d33.
		{nil, []byte("abc"), []byte{3, 0, 0, 0, 0x33, 0x5d, 0xe1, 0x66, 'a', 'b', 'c'}},
	} {
		if got, err := Lay(c.b, c.p); !bytes.Equal(got, c.want) || err != api.OK {
			t.Errorf("Lay(%x, %x) = %x, %d; want %x", c.b, c.p, got, err, c.want)
		}
	}
}

func TestP4_1Behind(t *testing.T) {
	for _, p := range records() {
		for _, b := range tails() {
			checkLay(t, b, p)
		}
	}
	for n := range 700 {
		checkLay(t, []byte{9}, some(n, 8))
	}
}

func TestP4_1TheNumberHasItsLowestByteFirst(t *testing.T) {
	for _, n := range []int{1, 255, 256, 0x0102, 0x010203, 0x0fedcb, api.MaxFrame} {
		got, err := Lay(nil, make([]byte, n))
		if err != api.OK || len(got) != n+8 {
			t.Fatalf("Lay(nil, %d bytes) = %d bytes, %d", n, len(got), err)
		}
		if want := []byte{byte(n), byte(n >> 8), byte(n >> 16), 0}; !bytes.Equal(got[:4], want) {
			t.Errorf("Lay(nil, %d bytes) begins with %x; want %x", n, got[:4], want)
		}
	}
}

func TestP4_1ManyOneBehindTheOther(t *testing.T) {
	for _, row := range rows() {
		var b []byte
		for _, p := range row {
			b, _ = Lay(b, p)
		}
		if want, _ := joined(row); !bytes.Equal(b, want) {
			t.Errorf("%d frames: %x; want %x", len(row), b, want)
		}
	}
}

func TestP4_1TooLong(t *testing.T) {
	for _, n := range []int{api.MaxFrame + 1, api.MaxFrame + 2, 2 * api.MaxFrame, 1 << 24} {
		for _, b := range tails() {
			if got, err := Lay(b, make([]byte, n)); len(got) != 0 || err != api.ErrLong {
				t.Errorf("Lay(%d bytes, %d bytes) = %d bytes, %d; want nothing, ErrLong", len(b), n, len(got), err)
			}
		}
	}
}

func TestP4_1OnlyTheRecordIsBound(t *testing.T) {
	checkLay(t, some(api.MaxFrame+9, 1), nil)
	checkLay(t, some(2*api.MaxFrame, 1), some(api.MaxFrame, 2))
}

func TestP4_1SpareRoomStays(t *testing.T) {
	bs, ps := some(64, 1), some(64, 2)
	bsBefore, psBefore := bytes.Clone(bs), bytes.Clone(ps)
	b, p := bs[10:20], ps[10:20]
	first, _ := Lay(b, p)
	kept := bytes.Clone(first)
	none, _ := Lay(b, nil)
	alone, _ := Lay(nil, p)
	if !bytes.Equal(bs, bsBefore) || !bytes.Equal(ps, psBefore) {
		t.Error("what was handed in, or its spare room, was changed")
	}
	if !bytes.Equal(first, kept) {
		t.Error("an answer shares memory with a later one")
	}
	for _, answer := range [][]byte{first, none, alone} {
		for i := range answer[:cap(answer)] {
			answer[:cap(answer)][i] ^= 0xff
		}
	}
	if !bytes.Equal(bs, bsBefore) || !bytes.Equal(ps, psBefore) {
		t.Error("an answer shares memory with what was handed in")
	}
}

func TestP4_2Known(t *testing.T) {
	nothing := []byte{0, 0, 0, 0, 0x1c, 0xdf, 0x44, 0x21}
	abc := []byte{3, 0, 0, 0, 0x33, 0x5d, 0xe1, 0x66, 'a', 'b', 'c'}
	checkScan(t, nil, nil, 0)
	checkScan(t, []byte{}, nil, 0)
	checkScan(t, nothing, [][]byte{{}}, 8)
	for c := range 256 {
		checkScan(t, append(bytes.Clone(nothing), byte(c)), [][]byte{{}}, 8)
	}
	checkScan(t, abc, [][]byte{[]byte("abc")}, 11)
	checkScan(t, slices.Concat(nothing, abc), [][]byte{{}, []byte("abc")}, 19)
	checkScan(t, slices.Concat(abc, nothing, []byte{0, 0}), [][]byte{[]byte("abc"), {}}, 19)
	checkScan(t, slices.Concat([]byte{0}, nothing), nil, 0)
}

func TestP4_2OneFrame(t *testing.T) {
	for _, p := range records() {
		checkScan(t, frameOf(p), [][]byte{p}, len(p)+8)
		checkScan(t, append(frameOf(p), 5), [][]byte{p}, len(p)+8)
	}
}

func TestP4_2ManyFrames(t *testing.T) {
	for _, row := range rows() {
		b, _ := joined(row)
		checkScan(t, b, row, len(b))
		for _, behind := range noFrames() {
			checkScan(t, slices.Concat(b, behind), row, len(b))
			// What stands behind something else isn't reached.
			checkScan(t, slices.Concat(b, behind, []byte{0xff, 0xff, 0xff, 0xff, 0}, b), row, len(b))
		}
	}
}

func TestP4_2LongRow(t *testing.T) {
	var row [][]byte
	for n := range 20000 {
		row = append(row, some(n%5, uint32(n)))
	}
	b, _ := joined(row)
	checkScan(t, b, row, len(b))
	row = [][]byte{some(api.MaxFrame, 1), nil, some(api.MaxFrame, 2), some(api.MaxFrame-1, 3)}
	b, _ = joined(row)
	checkScan(t, append(b, 1), row, len(b))
}

func TestP4_2None(t *testing.T) {
	for _, b := range noFrames() {
		checkNone(t, b)
	}
}

func TestP4_2ANumberAboveMaxFrame(t *testing.T) {
	for _, n := range []int{api.MaxFrame + 1, api.MaxFrame + 2, 2 * api.MaxFrame, 1 << 24} {
		// All its bytes are there, and the sum fits.
		whole := frameOf(some(n, 9))
		checkNone(t, whole)
		checkNone(t, append(whole, frameOf(nil)...))
		checkNone(t, whole[:len(whole)-1])
		checkNone(t, whole[:100])
	}
	for _, n := range []uint32{api.MaxFrame + 1, 1 << 24, 1<<24 + 3, 1<<31 - 1, 1 << 31, 1<<31 + 3, 1<<32 - 8, 1<<32 - 1} {
		checkNone(t, frameAs(n, nil))
		checkNone(t, frameAs(n, []byte("abc")))
		checkNone(t, frameAs(n, make([]byte, 100)))
	}
}

func TestP4_2ANumberOfMoreThanIsThere(t *testing.T) {
	for _, p := range [][]byte{nil, []byte("abc"), make([]byte, 40)} {
		for _, more := range []int{1, 2, 8, 200, api.MaxFrame - len(p)} {
			// The sum fits the bytes that are there.
			checkNone(t, frameAs(uint32(len(p)+more), p))
		}
	}
	// What lies in the spare room isn't there.
	whole := frameOf([]byte("abc"))
	for n := range whole {
		checkNone(t, whole[:n:n])
		checkScan(t, whole[:n], nil, 0)
	}
}

func TestP4_2ANumberOfFewer(t *testing.T) {
	// The sum fits all the bytes, not those that the number says.
	for n := range 9 {
		checkNone(t, frameAs(uint32(n), []byte("ninebytes")))
	}
}

func TestP4_2ASumThatDoesNotFit(t *testing.T) {
	for _, p := range [][]byte{[]byte("a"), []byte("abc"), some(70, 1)} {
		number := binary.LittleEndian.AppendUint32(nil, uint32(len(p)))
		right := crc32.ChecksumIEEE(slices.Concat(number, p))
		for _, sum := range []uint32{0, 1, 1<<32 - 1, crc32.ChecksumIEEE(number), crc32.ChecksumIEEE(p), crc32.ChecksumIEEE(slices.Concat(p, number)), ^right, right + 1, right - 1} {
			checkNone(t, append(binary.LittleEndian.AppendUint32(bytes.Clone(number), sum), p...))
		}
	}
	// Number and sum have their lowest bytes first.
	checkNone(t, []byte{0, 0, 0, 0, 0x21, 0x44, 0xdf, 0x1c})
	checkNone(t, append([]byte{0, 0, 0, 3, 0x33, 0x5d, 0xe1, 0x66}, "abc"...))
}

func TestP4_2RecordsAreNewMemory(t *testing.T) {
	row := [][]byte{[]byte("one"), {}, []byte("two"), some(40, 1), some(5, 2)}
	whole, _ := joined(row)
	size := len(whole)
	whole = append(whole, some(30, 3)...)
	before := bytes.Clone(whole)
	b := whole[:size+4]
	got, _ := Scan(b)
	again, _ := Scan(b)
	if !bytes.Equal(whole, before) {
		t.Error("what was handed in, or its spare room, was changed")
	}
	for i := range b {
		b[i] ^= 0xff
	}
	if !same(got, row) {
		t.Error("records share memory with what was handed in")
	}
	copy(whole, before)
	for i, p := range got {
		for j := range p[:cap(p)] {
			p[:cap(p)][j] ^= 0xff
		}
		if !same(got[i+1:], row[i+1:]) {
			t.Errorf("record %d shares memory with one behind it", i)
		}
	}
	if !same(again, row) {
		t.Error("an answer shares memory with another")
	}
	if !bytes.Equal(whole, before) {
		t.Error("records share memory with what was handed in")
	}
}

func TestP4_3CutAnywhere(t *testing.T) {
	for _, row := range rows() {
		var b []byte
		var ends []int
		for _, p := range row {
			b, _ = Lay(b, p)
			ends = append(ends, len(b))
		}
		for n := range len(b) + 1 {
			stand, size := 0, 0
			for stand < len(ends) && ends[stand] <= n {
				size = ends[stand]
				stand++
			}
			checkScan(t, b[:n], row[:stand], size)
		}
	}
}

func TestP4_3LongOnesCut(t *testing.T) {
	row := [][]byte{some(api.MaxFrame, 1), some(api.MaxFrame, 2)}
	b, ends := joined(row)
	for _, n := range []int{0, 7, 8, 1000, ends[0] - 1} {
		checkScan(t, b[:n], nil, 0)
	}
	for _, n := range []int{ends[0], ends[0] + 1, ends[0] + 8, ends[1] - 1} {
		checkScan(t, b[:n], row[:1], ends[0])
	}
	checkScan(t, b, row, ends[1])
}

// checkTurned turns the byte at i in some ways, and asks for the frames ahead of it alone.
func checkTurned(t *testing.T, b []byte, i int, ahead [][]byte, size int) {
	t.Helper()
	for _, mask := range []byte{0x01, 0x02, 0x10, 0x80, 0x55, 0xff} {
		b[i] ^= mask
		checkScan(t, b, ahead, size)
		b[i] ^= mask
	}
}

func TestP4_3OneByteTurned(t *testing.T) {
	for _, row := range rows() {
		b, ends := joined(row)
		begin := 0
		for k, end := range ends {
			// The number's bytes are the first four: a turned one doesn't fit here either.
			for i := begin; i < end; i++ {
				checkTurned(t, b, i, row[:k], begin)
			}
			begin = end
		}
		checkScan(t, b, row, len(b))
	}
}

func TestP4_3EachTurnOfAByte(t *testing.T) {
	row := [][]byte{[]byte("ab"), []byte("cdefg"), nil, []byte("h")}
	b, ends := joined(row)
	begin := 0
	for k, end := range ends {
		for i := begin; i < end; i++ {
			for mask := 1; mask < 256; mask++ {
				b[i] ^= byte(mask)
				checkScan(t, b, row[:k], begin)
				b[i] ^= byte(mask)
			}
		}
		begin = end
	}
}

func TestP4_3ALongOneTurned(t *testing.T) {
	row := [][]byte{[]byte("ab"), some(api.MaxFrame, 1), []byte("cd")}
	b, ends := joined(row)
	for _, i := range []int{ends[0] + 4, ends[0] + 8, ends[0] + 8 + api.MaxFrame/2, ends[1] - 1} {
		checkTurned(t, b, i, row[:1], ends[0])
	}
}

func TestP4_3LaidAndScanned(t *testing.T) {
	for _, p := range records() {
		one, err := Lay(nil, p)
		if err != api.OK {
			t.Fatal(err)
		}
		two, _ := Lay(one, []byte("behind"))
		checkScan(t, one, [][]byte{p}, len(one))
		checkScan(t, two, [][]byte{p, []byte("behind")}, len(two))
		checkScan(t, two[:len(two)-1], [][]byte{p}, len(one))
	}
}
