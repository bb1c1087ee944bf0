package journal

import (
	"bytes"
	"encoding/binary"
	"hash/crc32"
	"math"
	"slices"
	"testing"

	"buttery/api"
	"buttery/disk"
)

// headBytes stand ahead of a record in its frame.
const headBytes = 8

// frameAs is a number, the sum of it and p by the library, and p.
func frameAs(number uint32, p []byte) []byte {
	b := binary.LittleEndian.AppendUint32(nil, number)
	b = binary.LittleEndian.AppendUint32(b, crc32.ChecksumIEEE(append(bytes.Clone(b), p...)))
	return append(b, p...)
}

// frameOf is the frame of p.
func frameOf(p []byte) []byte {
	return frameAs(uint32(len(p)), p)
}

// framesOf are the frames of a row, one behind the other.
func framesOf(row [][]byte) []byte {
	var b []byte
	for _, p := range row {
		b = append(b, frameOf(p)...)
	}
	return b
}

// some is n bytes of all kinds, always the same for n and seed.
func some(n int, seed uint32) []byte {
	b := make([]byte, n)
	state := uint32(n)*7919 + seed
	for i := range b {
		state = state*1664525 + 1013904223
		b[i] = byte(state >> 24)
	}
	return b
}

// of is a disk on which fast stands fast, and loose is loose.
func of(fast, loose []byte) api.Disk {
	return api.Disk{Fast: fast, Loose: loose}
}

// filled is a disk of that many bytes.
func filled(fast, loose int) api.Disk {
	return of(some(fast, 1), some(loose, 2))
}

// row makes records of texts.
func row(texts ...string) [][]byte {
	var l [][]byte
	for _, s := range texts {
		l = append(l, []byte(s))
	}
	return l
}

// rows are records that stand one behind the other.
func rows() [][][]byte {
	return [][][]byte{
		nil,
		{nil},
		row("a"),
		row("a", ""),
		row("", "abc"),
		row("", "", "", ""),
		row("one", "two", "three"),
		{some(9, 1), frameOf([]byte("within")), make([]byte, 16), some(20, 4), {0}},
		{some(127, 5), some(256, 6), some(64, 7)},
	}
}

// disks have bytes of both kinds, of one, and none; frames among them, torn ones, and none.
func disks() []api.Disk {
	one, two := frameOf([]byte("one")), frameOf([]byte("two"))
	return []api.Disk{
		{},
		of([]byte{}, []byte{}),
		of(one, nil),
		of(nil, one),
		of(one, two),
		of(slices.Concat(one, two), frameOf(nil)),
		of(one, two[:5]),
		of(one[:9], nil),
		of(nil, one[:9]),
		of([]byte("fast"), nil),
		of(nil, []byte("loose")),
		of([]byte("fast"), []byte("loose")),
		filled(100, 0),
		filled(0, 100),
		filled(63, 65),
	}
}

// noFrames are bytes at whose beginning no frame stands.
func noFrames() [][]byte {
	l := [][]byte{nil, {}, {0}, {0x1c}, make([]byte, 4), make([]byte, 7), make([]byte, 8), make([]byte, 300), bytes.Repeat([]byte{0xff}, 8), bytes.Repeat([]byte{0xff}, 300), []byte("a record"), some(40, 3)}
	whole := frameOf([]byte("abcdef"))
	for n := range whole {
		l = append(l, whole[:n])
	}
	return l
}

// parted are all disks of these bytes: of the first ones, each number may stand fast.
func parted(b []byte) []api.Disk {
	var l []api.Disk
	for n := range len(b) + 1 {
		l = append(l, of(b[:n:n], b[n:]))
	}
	return l
}

// ends are three disks of these bytes: all loose, the half of them fast, all fast.
func ends(b []byte) []api.Disk {
	half := len(b) / 2
	return []api.Disk{of(nil, b), of(b[:half], b[half:]), of(b, nil)}
}

func same(a, b [][]byte) bool {
	return slices.EqualFunc(a, b, bytes.Equal)
}

func sameDisk(a, b api.Disk) bool {
	return bytes.Equal(a.Fast, b.Fast) && bytes.Equal(a.Loose, b.Loose)
}

// checkAppend asks for the frame of p behind all, loose.
func checkAppend(t *testing.T, d api.Disk, p []byte) {
	t.Helper()
	want := of(d.Fast, slices.Concat(d.Loose, frameOf(p)))
	if got, err := Append(d, p); err != api.OK || !sameDisk(got, want) {
		t.Errorf("Append(%d fast, %d loose; %d bytes) = %d fast %.40q, %d loose %.40q, error %d; want %d fast, %d loose %.40q",
			len(d.Fast), len(d.Loose), len(p), len(got.Fast), got.Fast, len(got.Loose), got.Loose, err, len(want.Fast), len(want.Loose), want.Loose)
	}
}

func checkRefused(t *testing.T, d api.Disk, p []byte, want api.Errno) {
	t.Helper()
	got, err := Append(d, p)
	if err != want || len(got.Fast) > 0 || len(got.Loose) > 0 {
		t.Errorf("Append(%d fast, %d loose; %d bytes) = %d fast, %d loose, error %d; want nothing, error %d",
			len(d.Fast), len(d.Loose), len(p), len(got.Fast), len(got.Loose), err, want)
	}
}

// checkOpen asks for these records, and a disk on which they alone stand, fast.
func checkOpen(t *testing.T, d api.Disk, want [][]byte) {
	t.Helper()
	left := of(framesOf(want), nil)
	got, opened := Open(d)
	if !same(got, want) || !sameDisk(opened, left) {
		t.Errorf("Open(%d fast %.40q, %d loose %.40q) = %d records %.40q, %d fast, %d loose; want %d records %.40q, %d fast",
			len(d.Fast), d.Fast, len(d.Loose), d.Loose, len(got), got, len(opened.Fast), len(opened.Loose), len(want), want, len(left.Fast))
	}
	if again, then := Open(opened); !same(again, want) || !sameDisk(then, left) {
		t.Errorf("opened again: %d records %.40q, %d fast, %d loose; want %d records %.40q, %d fast",
			len(again), again, len(then.Fast), len(then.Loose), len(want), want, len(left.Fast))
	}
}

func TestP6_1Known(t *testing.T) {
	for _, c := range []struct {
		d    api.Disk
		p    string
		want string // what is loose
	}{
		{api.Disk{}, "", "\x00\x00\x00\x00\x1c\xdf\x44\x21"},
		{of([]byte("fast"), nil), "", "\x00\x00\x00\x00\x1c\xdf\x44\x21"},
		{of(nil, []byte("loose")), "", "loose\x00\x00\x00\x00\x1c\xdf\x44\x21"},
		{api.Disk{}, "abc", "\x03\x00\x00\x00\x33\x5d\xe1\x66abc"},
		{of([]byte("fast"), []byte("loose")), "abc", "loose\x03\x00\x00\x00\x33\x5d\xe1\x66abc"},
	} {
		got, err := Append(c.d, []byte(c.p))
		if err != api.OK || !bytes.Equal(got.Fast, c.d.Fast) || string(got.Loose) != c.want {
			t.Errorf("Append(%q, %q; %q) = %q, %q, error %d; want loose %q", c.d.Fast, c.d.Loose, c.p, got.Fast, got.Loose, err, c.want)
		}
	}
}

func TestP6_1BehindAll(t *testing.T) {
	for _, d := range disks() {
		for _, p := range [][]byte{nil, {}, {0}, {0xff}, []byte("abc"), make([]byte, 8), frameOf([]byte("within")), some(127, 1), some(128, 2), some(256, 3), some(1000, 4)} {
			checkAppend(t, d, p)
		}
	}
}

func TestP6_1EachShortLength(t *testing.T) {
	for n := range 300 {
		checkAppend(t, of([]byte("fast"), []byte("loose")), some(n, 5))
	}
}

func TestP6_1ManyOneBehindTheOther(t *testing.T) {
	for _, l := range rows() {
		for _, d := range disks() {
			got := d
			for _, p := range l {
				got, _ = Append(got, p)
			}
			if want := of(d.Fast, slices.Concat(d.Loose, framesOf(l))); !sameDisk(got, want) {
				t.Errorf("%d records behind %.40q, %.40q: %.40q, %.40q", len(l), d.Fast, d.Loose, got.Fast, got.Loose)
			}
		}
	}
}

func TestP6_1UpToMaxFrame(t *testing.T) {
	for _, d := range disks() {
		checkAppend(t, d, some(api.MaxFrame-1, 1))
		checkAppend(t, d, some(api.MaxFrame, 2))
	}
}

func TestP6_1TooLong(t *testing.T) {
	for _, n := range []int{api.MaxFrame + 1, api.MaxFrame + 2, 2 * api.MaxFrame, api.MaxDisk - headBytes, api.MaxDisk, api.MaxDisk + 1} {
		p := some(n, 1)
		for _, d := range disks() {
			checkRefused(t, d, p, api.ErrLong)
		}
		// Laying comes ahead of writing: the record is too long, even where there is no room either.
		for _, d := range []api.Disk{filled(api.MaxDisk, 0), filled(0, api.MaxDisk), filled(api.MaxDisk/2, api.MaxDisk/2)} {
			checkRefused(t, d, p, api.ErrLong)
		}
	}
}

func TestP6_1JustAsMuchRoom(t *testing.T) {
	for _, n := range []int{0, 1, 2, 100, api.MaxFrame - 1, api.MaxFrame} {
		p := some(n, 1)
		rest := api.MaxDisk - headBytes - n
		for _, d := range []api.Disk{filled(rest, 0), filled(0, rest), filled(rest/2, rest-rest/2)} {
			checkAppend(t, d, p)
		}
		for _, d := range []api.Disk{filled(rest+1, 0), filled(0, rest+1), filled(rest/2+1, rest-rest/2), filled(rest/2, rest-rest/2+1)} {
			checkRefused(t, d, p, api.ErrFull)
		}
	}
}

func TestP6_1NoRoom(t *testing.T) {
	for _, room := range []int{0, 1, 7} {
		rest := api.MaxDisk - room
		for _, d := range []api.Disk{filled(rest, 0), filled(0, rest), filled(rest/2, rest-rest/2)} {
			for _, n := range []int{0, 1, 100, api.MaxFrame} {
				checkRefused(t, d, make([]byte, n), api.ErrFull)
			}
		}
	}
	for _, d := range []api.Disk{filled(api.MaxDisk+1, 0), filled(0, api.MaxDisk+1), filled(api.MaxDisk, api.MaxDisk)} {
		checkRefused(t, d, nil, api.ErrFull)
		checkRefused(t, d, make([]byte, api.MaxFrame+1), api.ErrLong)
	}
}

func TestP6_2Known(t *testing.T) {
	d, err := Append(api.Disk{}, []byte("a"))
	if err != api.OK {
		t.Fatal(err)
	}
	d, err = Append(disk.Sync(d), []byte("b"))
	if err != api.OK {
		t.Fatal(err)
	}
	checkOpen(t, d, row("a", "b"))
	checkOpen(t, disk.Crash(d, 5), row("a"))
	checkOpen(t, disk.Crash(d, 8), row("a"))
	checkOpen(t, disk.Crash(d, 9), row("a", "b"))
	checkOpen(t, disk.Crash(d, -1), row("a"))
	records, opened := Open(disk.Crash(d, 5))
	if !same(records, row("a")) || !sameDisk(opened, of([]byte("\x01\x00\x00\x00\x63\x8f\xf7\xc1a"), nil)) {
		t.Errorf("Open = %q, %x, %x", records, opened.Fast, opened.Loose)
	}
}

func TestP6_2WholeRecords(t *testing.T) {
	for _, l := range rows() {
		for _, d := range parted(framesOf(l)) {
			checkOpen(t, d, l)
		}
	}
}

func TestP6_2NoRecord(t *testing.T) {
	checkOpen(t, api.Disk{}, nil)
	checkOpen(t, of([]byte{}, []byte{}), nil)
	for _, b := range noFrames() {
		for _, d := range parted(b) {
			checkOpen(t, d, nil)
		}
	}
}

func TestP6_2WhatStandsBehindIsGone(t *testing.T) {
	for _, l := range rows() {
		b := framesOf(l)
		for _, behind := range noFrames() {
			whole := slices.Concat(b, behind)
			for _, n := range []int{0, len(b) / 2, len(b), len(b) + len(behind)/2, len(whole)} {
				checkOpen(t, of(whole[:n:n], whole[n:]), l)
			}
		}
		// What stands behind something else isn't reached.
		for _, d := range ends(slices.Concat(b, []byte{0xff, 0xff, 0xff, 0xff, 0}, b, frameOf(nil))) {
			checkOpen(t, d, l)
		}
	}
}

func TestP6_2ATornRecord(t *testing.T) {
	ahead := frameOf([]byte("whole"))
	for _, p := range [][]byte{nil, []byte("b"), []byte("torn one"), some(300, 1), frameOf([]byte("within"))} {
		torn := frameOf(p)
		for n := range torn {
			for _, d := range ends(slices.Concat(ahead, torn[:n])) {
				checkOpen(t, d, row("whole"))
			}
			checkOpen(t, of(ahead, torn[:n]), row("whole"))
			checkOpen(t, of(torn[:n], nil), nil)
			checkOpen(t, of(nil, torn[:n]), nil)
			checkOpen(t, disk.Crash(of(ahead, torn), n), row("whole"))
		}
		checkOpen(t, disk.Crash(of(ahead, torn), len(torn)), [][]byte{[]byte("whole"), p})
	}
}

func TestP6_2SpareRoomIsNotThere(t *testing.T) {
	whole := framesOf(row("one", "two"))
	for n := range whole {
		checkOpen(t, of(whole[:n], nil), row("one", "two")[:n/11])
		checkOpen(t, of(nil, whole[:n]), row("one", "two")[:n/11])
	}
}

func TestP6_2OneByteTurned(t *testing.T) {
	l := row("ahead", "ab", "", "behind")
	b := framesOf(l)
	begin := 0
	for k, p := range l {
		end := begin + headBytes + len(p)
		for i := begin; i < end; i++ {
			for mask := 1; mask < 256; mask++ {
				b[i] ^= byte(mask)
				checkOpen(t, of(b[:begin], b[begin:]), l[:k])
				checkOpen(t, of(b, nil), l[:k])
				b[i] ^= byte(mask)
			}
		}
		begin = end
	}
	checkOpen(t, of(nil, b), l)
}

func TestP6_2ANumberThatMayNotBe(t *testing.T) {
	ahead := frameOf([]byte("ahead"))
	for _, bad := range [][]byte{
		frameOf(some(api.MaxFrame+1, 9)),
		frameOf(some(2*api.MaxFrame, 9)),
		frameAs(api.MaxFrame+1, []byte("abc")),
		frameAs(1<<31, []byte("abc")),
		frameAs(1<<32-8, nil),
		frameAs(1<<32-1, make([]byte, 100)),
		frameAs(4, []byte("abc")),
		frameAs(2, []byte("abc")),
	} {
		for _, d := range ends(slices.Concat(ahead, bad, ahead)) {
			checkOpen(t, d, row("ahead"))
		}
		for _, d := range ends(bad) {
			checkOpen(t, d, nil)
		}
	}
}

func TestP6_2LongRecords(t *testing.T) {
	l := [][]byte{some(api.MaxFrame, 1), nil, some(api.MaxFrame-1, 2), some(api.MaxFrame, 3)}
	b := framesOf(l)
	for _, d := range ends(b) {
		checkOpen(t, d, l)
	}
	for _, d := range ends(b[:len(b)-1]) {
		checkOpen(t, d, l[:3])
	}
}

func TestP6_2AFullDisk(t *testing.T) {
	l := [][]byte{some(api.MaxFrame, 1), some(api.MaxFrame, 2), some(api.MaxFrame, 3), some(api.MaxFrame-4*headBytes, 4)}
	for _, d := range ends(framesOf(l)) {
		if len(d.Fast)+len(d.Loose) != api.MaxDisk {
			t.Fatal("the disk is not full")
		}
		checkOpen(t, d, l)
		checkRefused(t, d, nil, api.ErrFull)
	}
	var many [][]byte
	for range api.MaxDisk / headBytes {
		many = append(many, nil)
	}
	checkOpen(t, of(nil, framesOf(many)), many)
}

func TestP6_2MoreThanMaxDisk(t *testing.T) {
	l := [][]byte{some(api.MaxFrame, 1), some(api.MaxFrame, 2), some(api.MaxFrame, 3), some(api.MaxFrame, 4), some(9, 5)}
	for _, d := range ends(append(framesOf(l), 1, 2, 3)) {
		checkOpen(t, d, l)
	}
}

// turn turns all bytes of a list, those of its spare room too.
func turn(b []byte) {
	b = b[:cap(b)]
	for i := range b {
		b[i] ^= 0xff
	}
}

func clones(l [][]byte) [][]byte {
	var out [][]byte
	for _, b := range l {
		out = append(out, bytes.Clone(b))
	}
	return out
}

// checkMemory asks that do's answer, for arguments in whole, changes nothing there, and is new memory, each list of it.
func checkMemory(t *testing.T, name string, whole []byte, do func() [][]byte) {
	t.Helper()
	before := bytes.Clone(whole)
	answer := do()
	kept := clones(answer)
	again := do()
	if !bytes.Equal(whole, before) {
		t.Errorf("%s: what was handed in, or its spare room, was changed", name)
	}
	turn(whole)
	if !same(answer, kept) {
		t.Errorf("%s: the answer shares memory with what was handed in", name)
	}
	turn(whole)
	for i, one := range answer {
		turn(one)
		if !same(answer[i+1:], kept[i+1:]) {
			t.Errorf("%s: two lists of the answer share memory", name)
		}
	}
	if !bytes.Equal(whole, before) {
		t.Errorf("%s: the answer shares memory with what was handed in", name)
	}
	if !same(again, kept) {
		t.Errorf("%s: two answers share memory", name)
	}
}

func TestP6_1AnswersAreNewMemory(t *testing.T) {
	for _, fast := range []int{0, 1, 5, 64} {
		for _, loose := range []int{0, 1, 3, 64} {
			for _, n := range []int{0, 1, 4, 64} {
				// They lie one behind the other, so that the spare room of each is what follows.
				whole := some(fast+loose+n+32, 9)
				d, p := of(whole[:fast], whole[fast:fast+loose]), whole[fast+loose:fast+loose+n]
				checkMemory(t, "Append", whole, func() [][]byte {
					got, _ := Append(d, p)
					return [][]byte{got.Fast, got.Loose}
				})
			}
		}
	}
}

func TestP6_2AnswersAreNewMemory(t *testing.T) {
	for _, l := range rows() {
		for _, behind := range [][]byte{nil, {1}, frameOf([]byte("torn"))[:11]} {
			whole := slices.Concat(framesOf(l), behind, some(32, 9))
			size := len(whole) - 32
			for _, fast := range []int{0, 1, size / 2, size - len(behind), size} {
				if fast > size {
					continue
				}
				d := of(whole[:fast], whole[fast:size])
				checkMemory(t, "Open", whole, func() [][]byte {
					records, opened := Open(d)
					return append(records, opened.Fast, opened.Loose)
				})
			}
		}
	}
}

func TestP6_1WhatIsRefusedIsNotChanged(t *testing.T) {
	whole := some(api.MaxDisk+200, 9)
	before := bytes.Clone(whole)
	full := of(whole[:api.MaxDisk/2], whole[api.MaxDisk/2:api.MaxDisk])
	for range 2 {
		checkRefused(t, full, whole[api.MaxDisk:api.MaxDisk+100], api.ErrFull)
		checkRefused(t, of(whole[:10], whole[10:20]), whole[20:20+api.MaxFrame+1], api.ErrLong)
	}
	if !bytes.Equal(whole, before) {
		t.Error("what was handed in, or its spare room, was changed")
	}
}

// step is an append, a sync, a crash or an open.
type step struct {
	kind int
	p    []byte
	keep int
}

const (
	appends = iota
	syncs
	crashes
	opens
)

// told follows a row by its own means: by records and numbers of bytes alone.
type told struct {
	since [][]byte // found by the last Open, or appended since
	size  int      // bytes that are there
	fast  int      // how many of these stand fast
	down  bool     // a crash came, and no Open behind it
}

// whole is how many of the records stand in the first n bytes, and how many bytes they take.
func (m told) whole(n int) (records, taken int) {
	for _, p := range m.since {
		if taken+headBytes+len(p) > n {
			break
		}
		taken += headBytes + len(p)
		records++
	}
	return records, taken
}

func (m told) appended(p []byte) told {
	m.since = append(slices.Clone(m.since), p)
	m.size += headBytes + len(p)
	return m
}

func (m told) crashed(keep int) told {
	m.size = m.fast + min(max(keep, 0), m.size-m.fast)
	m.fast, m.down = m.size, true
	return m
}

func (m told) opened() told {
	records, taken := m.whole(m.size)
	return told{since: m.since[:records], size: taken, fast: taken}
}

// run is a disk, and what is told of it.
type run struct {
	d api.Disk
	m told
}

// behind does a step on both. Whoever goes on behind a crash opens first.
func (r run) behind(t *testing.T, s step) run {
	t.Helper()
	switch s.kind {
	case appends:
		if r.m.down {
			r = r.behind(t, step{kind: opens})
		}
		return r.appended(t, s.p)
	case syncs:
		r.d, r.m.fast = disk.Sync(r.d), r.m.size
	case crashes:
		r.d, r.m = disk.Crash(r.d, s.keep), r.m.crashed(s.keep)
	default:
		_, r.d = Open(r.d)
		r.m = r.m.opened()
	}
	return r
}

func (r run) appended(t *testing.T, p []byte) run {
	t.Helper()
	d, err := Append(r.d, p)
	if r.m.size+headBytes+len(p) > api.MaxDisk {
		if err != api.ErrFull {
			t.Fatalf("Append of %d bytes behind %d: error %d; want ErrFull", len(p), r.m.size, err)
		}
		return r
	}
	if err != api.OK {
		t.Fatalf("Append of %d bytes behind %d: error %d", len(p), r.m.size, err)
	}
	return run{d, r.m.appended(p)}
}

// check asks that Open finds a beginning of what was found or appended since, with all that stand fast, and just those that stand there whole; and opened again the same.
func (r run) check(t *testing.T, s step) {
	t.Helper()
	if len(r.d.Fast) != r.m.fast || len(r.d.Fast)+len(r.d.Loose) != r.m.size {
		t.Fatalf("behind %+v: %d fast, %d loose; want %d, %d", s, len(r.d.Fast), len(r.d.Loose), r.m.fast, r.m.size-r.m.fast)
	}
	got, opened := Open(r.d)
	if len(got) > len(r.m.since) || !same(got, r.m.since[:len(got)]) {
		t.Fatalf("behind %+v: %.40q is no beginning of %.40q", s, got, r.m.since)
	}
	if sure, _ := r.m.whole(r.m.fast); len(got) < sure {
		t.Fatalf("behind %+v: %d records were found; %d stand fast", s, len(got), sure)
	}
	records, taken := r.m.whole(r.m.size)
	if len(got) != records || len(opened.Fast) != taken || len(opened.Loose) > 0 {
		t.Fatalf("behind %+v: %d records, %d fast, %d loose; want %d, %d, 0", s, len(got), len(opened.Fast), len(opened.Loose), records, taken)
	}
	if again, then := Open(opened); !same(again, got) || !sameDisk(then, opened) {
		t.Fatalf("behind %+v: opened again: %.40q, %d fast, %d loose; want %.40q, %d, 0", s, again, len(then.Fast), len(then.Loose), got, len(opened.Fast))
	}
}

// goOn does all rows of that many steps.
func (r run) goOn(t *testing.T, all []step, left int) {
	if left == 0 || t.Failed() {
		return
	}
	for _, s := range all {
		next := r.behind(t, s)
		next.check(t, s)
		next.goOn(t, all, left-1)
	}
}

func TestP6_3EachShortRow(t *testing.T) {
	all := []step{
		{kind: appends},
		{kind: appends, p: []byte("a")},
		{kind: appends, p: frameOf([]byte("bc"))},
		{kind: syncs},
		{kind: opens},
		{kind: crashes, keep: -1},
		{kind: crashes, keep: 0},
		{kind: crashes, keep: 5},
		{kind: crashes, keep: 9},
		{kind: crashes, keep: 20},
		{kind: crashes, keep: 100},
	}
	run{}.goOn(t, all, 5)
}

func TestP6_3EachCrashOfARow(t *testing.T) {
	l := row("one", "", "two", "three", "f")
	for fast := range len(l) + 1 {
		r := run{}
		for i, p := range l {
			if i == fast {
				r = r.behind(t, step{kind: syncs})
			}
			r = r.behind(t, step{kind: appends, p: p})
		}
		for keep := range r.m.size + 1 {
			s := step{kind: crashes, keep: keep}
			torn := r.behind(t, s)
			torn.check(t, s)
			torn.goOn(t, []step{{kind: appends, p: []byte("next")}, {kind: syncs}, {kind: crashes, keep: 3}, {kind: opens}}, 3)
		}
	}
}

// longRow does n steps, each one by what state says; its records have fewer than most bytes.
func (r run) longRow(t *testing.T, n, most int, state uint32) {
	t.Helper()
	next := func(below int) int {
		state = state*1664525 + 1013904223
		return int(state>>8) % below
	}
	for range n {
		var s step
		switch k := next(10); {
		case k < 6:
			s = step{kind: appends, p: some(next(most), state)}
		case k < 7:
			s = step{kind: syncs}
		case k < 8:
			s = step{kind: opens}
		default:
			s = step{kind: crashes, keep: next(len(r.d.Loose)+4) - 2}
		}
		r = r.behind(t, s)
		r.check(t, s)
	}
}

func TestP6_3LongRows(t *testing.T) {
	for seed := range uint32(300) {
		run{}.longRow(t, 60, 12, seed)
		run{}.longRow(t, 30, 300, seed)
	}
}

func TestP6_3RowsAtTheEnd(t *testing.T) {
	r := run{}
	for _, p := range [][]byte{some(api.MaxFrame, 1), some(api.MaxFrame, 2), some(api.MaxFrame, 3), some(api.MaxFrame-100, 4)} {
		r = r.behind(t, step{kind: appends, p: p})
	}
	full := r.behind(t, step{kind: syncs})
	for seed := range uint32(3) {
		r.longRow(t, 6, 30, seed)
		full.longRow(t, 12, 30, seed)
		run{}.longRow(t, 12, api.MaxFrame+1, seed)
	}
}

func TestP6_3ManyCrashes(t *testing.T) {
	d, _ := Append(api.Disk{}, []byte("stood fast"))
	d = disk.Sync(d)
	for n := range 50 {
		d, _ = Append(d, some(n, 1))
		for range n%4 + 1 {
			d = disk.Crash(d, n%headBytes)
		}
		checkOpen(t, d, row("stood fast"))
		_, d = Open(d)
	}
}

func TestP6_3AllThatMayStay(t *testing.T) {
	// Of two records, the second one never stays without the whole of the first one.
	d, _ := Append(api.Disk{}, []byte("sure"))
	d, _ = Append(disk.Sync(d), []byte("ab"))
	d, _ = Append(d, nil)
	l := row("sure", "ab", "")
	for keep := range 30 {
		want := l[:1]
		if keep >= 10 {
			want = l[:2]
		}
		if keep >= 18 {
			want = l
		}
		checkOpen(t, disk.Crash(d, keep), want)
	}
	checkOpen(t, disk.Crash(d, math.MinInt), l[:1])
	checkOpen(t, disk.Crash(d, math.MaxInt), l)
}

func TestP6_3BehindAnOpenNothingIsLost(t *testing.T) {
	// What Open found stands fast, though it was never synced.
	d, _ := Append(api.Disk{}, []byte("a"))
	d, _ = Append(d, []byte("b"))
	records, d := Open(disk.Crash(d, 12))
	if !same(records, row("a")) {
		t.Fatalf("%q", records)
	}
	checkOpen(t, disk.Crash(d, 0), row("a"))
	d, _ = Append(d, []byte("c"))
	checkOpen(t, disk.Crash(d, 0), row("a"))
	checkOpen(t, disk.Crash(d, 9), row("a", "c"))
}

func TestP6_3BehindATornRecordWithoutAnOpen(t *testing.T) {
	// Nothing but Open takes the torn one away: what is appended behind it isn't reached.
	d, _ := Append(api.Disk{}, []byte("a"))
	d, _ = Append(disk.Sync(d), []byte("torn"))
	d, _ = Append(disk.Crash(d, 5), []byte("c"))
	checkOpen(t, disk.Sync(d), row("a"))
}
