package crc

import (
	"bytes"
	"hash/crc32"
	"math"
	"strconv"
	"testing"
)

// byBits is the sum as the document's words tell it, bit by bit.
func byBits(b []byte) uint32 {
	register := uint32(math.MaxUint32)
	for _, c := range b {
		register ^= uint32(c)
		for range 8 {
			low := register & 1
			register >>= 1
			if low == 1 {
				register ^= 0xedb88320
			}
		}
	}
	return ^register
}

// some is n bytes of all kinds, always the same.
func some(n int) []byte {
	b := make([]byte, n)
	state := uint32(n) + 1
	for i := range b {
		state = state*1664525 + 1013904223
		b[i] = byte(state >> 24)
	}
	return b
}

// sums are sums that may go on: ends, single bits and others.
func sums() []uint32 {
	l := []uint32{0, math.MaxUint32, 0xedb88320, ^uint32(0xedb88320), 0xcbf43926, 0xdebb20e3, 0x2144df1c}
	for i := range 32 {
		l = append(l, 1<<i, ^uint32(1<<i))
	}
	return l
}

func checkSum(t *testing.T, b []byte) {
	t.Helper()
	want := byBits(b)
	if got := Sum(b); got != want {
		t.Errorf("Sum of %d bytes %.20x = %08x; want %08x", len(b), b, got, want)
	}
	if other := crc32.ChecksumIEEE(b); other != want {
		t.Errorf("the test is wrong: of %d bytes %.20x it wants %08x; the library says %08x", len(b), b, want, other)
	}
}

func checkMore(t *testing.T, sum uint32, b []byte) {
	t.Helper()
	want := crc32.Update(sum, crc32.IEEETable, b)
	if got := More(sum, b); got != want {
		t.Errorf("More(%08x, %d bytes %.20x) = %08x; want %08x", sum, len(b), b, got, want)
	}
}

func TestP2_1KnownSums(t *testing.T) {
	for _, c := range []struct {
		b    string
		want uint32
	}{
		{"", 0},
		{"123456789", 0xcbf43926},
		{"\x00", 0xd202ef8d},
		{"\xff", 0xff000000},
		{"\x00\x00\x00\x00", 0x2144df1c},
		{"\xff\xff\xff\xff", 0xffffffff},
		{"a", 0xe8b7be43},
		{"abc", 0x352441c2},
		{"The quick brown fox jumps over the lazy dog", 0x414fa339},
	} {
		if got := Sum([]byte(c.b)); got != c.want {
			t.Errorf("Sum(%q) = %08x; want %08x", c.b, got, c.want)
		}
	}
}

func TestP2_1Nothing(t *testing.T) {
	for _, b := range [][]byte{nil, {}, make([]byte, 0, 8), some(8)[8:]} {
		if got := Sum(b); got != 0 {
			t.Errorf("Sum of nothing = %08x; want 0", got)
		}
	}
}

func TestP2_1EachByte(t *testing.T) {
	for i := range 256 {
		checkSum(t, []byte{byte(i)})
		checkSum(t, []byte{0, byte(i)})
		checkSum(t, []byte{byte(i), 0})
		checkSum(t, []byte{255, byte(i), 255, 255, 255})
	}
}

func TestP2_1EachPairOfBytes(t *testing.T) {
	for i := range 1 << 16 {
		checkSum(t, []byte{byte(i >> 8), byte(i)})
	}
}

func TestP2_1EachLength(t *testing.T) {
	for n := range 600 {
		checkSum(t, some(n))
		checkSum(t, make([]byte, n))
		checkSum(t, bytes.Repeat([]byte{255}, n))
	}
	for _, n := range []int{1<<16 - 1, 1 << 16, 1<<16 + 1, 1 << 20, 1<<22 + 3} {
		checkSum(t, some(n))
	}
}

func TestP2_1OrderCounts(t *testing.T) {
	if Sum([]byte("ab")) == Sum([]byte("ba")) {
		t.Error("the bytes' order makes no difference")
	}
	if Sum([]byte{0}) == Sum([]byte{0, 0}) || Sum(nil) == Sum([]byte{0}) {
		t.Error("the number of zero bytes makes no difference")
	}
}

func TestP2_1BytesStay(t *testing.T) {
	whole := some(64)
	before := bytes.Clone(whole)
	first := Sum(whole[10:30])
	More(first, whole[30:40])
	if !bytes.Equal(whole, before) {
		t.Error("the bytes, or their spare room, were changed")
	}
	if again := Sum(whole[10:30]); again != first {
		t.Errorf("the same bytes have the sums %08x and %08x", first, again)
	}
}

func TestP2_2EachCut(t *testing.T) {
	for _, n := range []int{0, 1, 2, 9, 64, 300} {
		b := some(n)
		want := byBits(b)
		for i := range n + 1 {
			if got := More(Sum(b[:i]), b[i:]); got != want {
				t.Errorf("%d bytes, cut at %d: More = %08x; want %08x", n, i, got, want)
			}
		}
	}
}

func TestP2_2KnownSums(t *testing.T) {
	if got := More(Sum([]byte("1234")), []byte("56789")); got != 0xcbf43926 {
		t.Errorf("More of the sum of 1234 and of 56789 = %08x; want cbf43926", got)
	}
	if got := More(0, []byte("123456789")); got != 0xcbf43926 {
		t.Errorf("More of the sum of nothing = %08x; want cbf43926", got)
	}
}

func TestP2_2EmptyPiece(t *testing.T) {
	for _, sum := range sums() {
		for _, b := range [][]byte{nil, {}, make([]byte, 0, 8)} {
			if got := More(sum, b); got != sum {
				t.Errorf("More(%08x, nothing) = %08x; want the same", sum, got)
			}
		}
	}
}

func TestP2_2AnySum(t *testing.T) {
	for _, sum := range sums() {
		for i := range 256 {
			checkMore(t, sum, []byte{byte(i)})
		}
		for _, n := range []int{2, 3, 4, 5, 31, 257} {
			checkMore(t, sum, some(n))
		}
	}
}

func TestP2_2ManyPieces(t *testing.T) {
	b := some(5000)
	want := byBits(b)
	for _, step := range []int{1, 2, 3, 7, 64, 1000, 4999} {
		sum := Sum(nil)
		for rest := b; len(rest) > 0; {
			n := min(step, len(rest))
			sum = More(More(sum, rest[:n]), nil)
			rest = rest[n:]
		}
		if sum != want {
			t.Errorf("in pieces of %d: %08x; want %08x", step, sum, want)
		}
	}
}

// checkTurned turns each byte in each way, and asks for another sum.
func checkTurned(t *testing.T, b []byte) {
	t.Helper()
	sum := Sum(b)
	for i := range b {
		for mask := 1; mask < 256; mask++ {
			b[i] ^= byte(mask)
			if Sum(b) == sum {
				t.Errorf("%d bytes: byte %d turned by %02x has the same sum %08x", len(b), i, mask, sum)
			}
			b[i] ^= byte(mask)
		}
	}
}

func TestP2_3OneByteTurned(t *testing.T) {
	for _, b := range [][]byte{{0}, {255}, make([]byte, 12), bytes.Repeat([]byte{255}, 12), []byte("123456789"), some(70)} {
		t.Run(strconv.Itoa(len(b)), func(t *testing.T) { checkTurned(t, b) })
	}
}

func TestP2_3OneByteTurnedFarAhead(t *testing.T) {
	b := some(1 << 14)
	sum := Sum(b)
	for _, i := range []int{0, 1, 4095, 1<<13 + 1, 1<<14 - 1} {
		for mask := 1; mask < 256; mask++ {
			b[i] ^= byte(mask)
			if Sum(b) == sum {
				t.Errorf("byte %d turned by %02x has the same sum", i, mask)
			}
			b[i] ^= byte(mask)
		}
	}
}

func TestP2_3TurnedInAPiece(t *testing.T) {
	b := some(20)
	for _, sum := range sums() {
		before := More(sum, b)
		for i := range b {
			for bit := range 8 {
				b[i] ^= 1 << bit
				if More(sum, b) == before {
					t.Errorf("sum %08x: byte %d, bit %d turned: the same sum", sum, i, bit)
				}
				b[i] ^= 1 << bit
			}
		}
	}
}
