package disk

import (
	"bytes"
	"math"
	"slices"
	"testing"

	"buttery/api"
)

// some is n bytes of all kinds, always the same for n and seed.
func some(n int, seed uint32) []byte {
	b := make([]byte, n)
	state := uint32(n)*7919 + seed
	for i := range b {
		state = state*1664525 + 1013904223
		b[i] = byte(state >> 24)
	}
	return b
}

// of is a disk on which fast stands fast, and loose is loose.
func of(fast, loose string) api.Disk {
	return api.Disk{Fast: []byte(fast), Loose: []byte(loose)}
}

// filled is a disk of that many bytes.
func filled(fast, loose int) api.Disk {
	return api.Disk{Fast: some(fast, 1), Loose: some(loose, 2)}
}

// disks have bytes of both kinds, of one, and none.
func disks() []api.Disk {
	return []api.Disk{
		{},
		{Fast: []byte{}, Loose: []byte{}},
		of("a", ""),
		of("", "a"),
		of("ab", "cd"),
		of("abc", "d"),
		of("a", "bcd"),
		of("\x00\x00", "\x00\x00\x00"),
		of("\xff", "\x00"),
		of("same", "same"),
		filled(100, 0),
		filled(0, 100),
		filled(63, 65),
		filled(300, 20),
	}
}

// fullDisks are of MaxDisk bytes: all fast, all loose, and some of each.
func fullDisks() []api.Disk {
	return []api.Disk{
		filled(api.MaxDisk, 0),
		filled(0, api.MaxDisk),
		filled(api.MaxDisk-1, 1),
		filled(1, api.MaxDisk-1),
		filled(api.MaxDisk/2, api.MaxDisk/2),
	}
}

// pieces are bytes to write.
func pieces() [][]byte {
	return [][]byte{nil, {}, {0}, {0xff}, []byte("b"), []byte("cd"), make([]byte, 9), some(8, 3), some(200, 4)}
}

func same(a, b api.Disk) bool {
	return bytes.Equal(a.Fast, b.Fast) && bytes.Equal(a.Loose, b.Loose)
}

func empty(d api.Disk) bool {
	return len(d.Fast) == 0 && len(d.Loose) == 0
}

// copyOf shares nothing with d.
func copyOf(d api.Disk) api.Disk {
	return api.Disk{Fast: slices.Clone(d.Fast), Loose: slices.Clone(d.Loose)}
}

func checkDisk(t *testing.T, what string, got, want api.Disk) {
	t.Helper()
	if !same(got, want) {
		t.Errorf("%s: %d fast %.40q, %d loose %.40q; want %d fast %.40q, %d loose %.40q", what,
			len(got.Fast), got.Fast, len(got.Loose), got.Loose, len(want.Fast), want.Fast, len(want.Loose), want.Loose)
	}
}

func checkWrite(t *testing.T, d api.Disk, b []byte) {
	t.Helper()
	want := api.Disk{Fast: d.Fast, Loose: slices.Concat(d.Loose, b)}
	got, err := Write(d, b)
	if err != api.OK {
		t.Errorf("Write(%d fast, %d loose; %d bytes): error %d", len(d.Fast), len(d.Loose), len(b), err)
	}
	checkDisk(t, "Write", got, want)
}

func checkFull(t *testing.T, d api.Disk, b []byte) {
	t.Helper()
	got, err := Write(d, b)
	if err != api.ErrFull || !empty(got) {
		t.Errorf("Write(%d fast, %d loose; %d bytes) = %d fast, %d loose, error %d; want nothing, ErrFull",
			len(d.Fast), len(d.Loose), len(b), len(got.Fast), len(got.Loose), err)
	}
}

func checkCrash(t *testing.T, d api.Disk, keep, kept int) {
	t.Helper()
	checkDisk(t, "Crash", Crash(d, keep), api.Disk{Fast: slices.Concat(d.Fast, d.Loose[:kept])})
}

func checkCut(t *testing.T, d api.Disk, n int) {
	t.Helper()
	got, err := Cut(d, n)
	if err != api.OK {
		t.Errorf("Cut(%d fast, %d loose; %d): error %d", len(d.Fast), len(d.Loose), n, err)
	}
	checkDisk(t, "Cut", got, api.Disk{Fast: slices.Concat(d.Fast, d.Loose)[:n]})
}

func checkNoCut(t *testing.T, d api.Disk, n int) {
	t.Helper()
	if got, err := Cut(d, n); err != api.ErrArg || !empty(got) {
		t.Errorf("Cut(%d fast, %d loose; %d) = %d fast, %d loose, error %d; want nothing, ErrArg",
			len(d.Fast), len(d.Loose), n, len(got.Fast), len(got.Loose), err)
	}
}

func TestP5_1Known(t *testing.T) {
	d, err := Write(api.Disk{}, []byte("ab"))
	if err != api.OK {
		t.Fatal(err)
	}
	checkDisk(t, `Write "ab"`, d, of("", "ab"))
	d = Sync(d)
	checkDisk(t, "Sync", d, of("ab", ""))
	d, err = Write(d, []byte("cd"))
	if err != api.OK {
		t.Fatal(err)
	}
	checkDisk(t, `Write "cd"`, d, of("ab", "cd"))
	if got := All(d); string(got) != "abcd" {
		t.Errorf("All = %q; want abcd", got)
	}
	d, _ = Write(d, []byte("e"))
	checkDisk(t, `Write "e"`, d, of("ab", "cde"))
	checkDisk(t, "Sync", Sync(d), of("abcde", ""))
}

func TestP5_1WriteBehindAll(t *testing.T) {
	for _, d := range disks() {
		for _, b := range pieces() {
			checkWrite(t, d, b)
		}
	}
}

func TestP5_1Sync(t *testing.T) {
	for _, d := range slices.Concat(disks(), fullDisks()) {
		want := api.Disk{Fast: slices.Concat(d.Fast, d.Loose)}
		got := Sync(d)
		checkDisk(t, "Sync", got, want)
		checkDisk(t, "Sync again", Sync(got), want)
	}
}

func TestP5_1All(t *testing.T) {
	for _, d := range slices.Concat(disks(), fullDisks()) {
		if got := All(d); !bytes.Equal(got, slices.Concat(d.Fast, d.Loose)) {
			t.Errorf("All(%d fast %.40q, %d loose %.40q) = %d bytes %.40q", len(d.Fast), d.Fast, len(d.Loose), d.Loose, len(got), got)
		}
	}
}

func TestP5_1UpToMaxDisk(t *testing.T) {
	for _, b := range [][]byte{{7}, some(2, 5), some(1000, 6), some(api.MaxDisk, 7)} {
		rest := api.MaxDisk - len(b)
		for _, d := range []api.Disk{filled(rest, 0), filled(0, rest), filled(rest/2, rest-rest/2)} {
			checkWrite(t, d, b)
			checkWrite(t, d, b[1:])
			checkFull(t, d, append(bytes.Clone(b), 8))
			checkFull(t, d, append(bytes.Clone(b), b...))
		}
	}
}

func TestP5_1AFullDisk(t *testing.T) {
	for _, d := range fullDisks() {
		checkWrite(t, d, nil)
		checkWrite(t, d, []byte{})
		for _, n := range []int{1, 2, 100, api.MaxDisk} {
			checkFull(t, d, make([]byte, n))
		}
	}
	for _, d := range disks() {
		checkFull(t, d, make([]byte, api.MaxDisk+1))
	}
}

func TestP5_1OneByteMoreThanMaxDisk(t *testing.T) {
	for _, d := range []api.Disk{filled(api.MaxDisk+1, 0), filled(0, api.MaxDisk+1), filled(api.MaxDisk, 1), filled(1, api.MaxDisk), filled(api.MaxDisk/2+1, api.MaxDisk/2)} {
		checkFull(t, d, []byte{1})
		// Even with nothing behind them it would be more than MaxDisk.
		checkFull(t, d, nil)
		if got := All(d); len(got) != api.MaxDisk+1 {
			t.Errorf("All = %d bytes", len(got))
		}
		checkDisk(t, "Sync", Sync(d), api.Disk{Fast: slices.Concat(d.Fast, d.Loose)})
	}
}

func TestP5_1ARefusedWriteChangesNothing(t *testing.T) {
	for _, d := range fullDisks() {
		before := copyOf(d)
		checkFull(t, d, []byte("x"))
		checkDisk(t, "behind a refused Write", d, before)
		// There is still no room behind a Sync, and just as much as there was behind a Crash.
		checkFull(t, Sync(d), []byte("x"))
		if len(d.Loose) > 0 {
			checkWrite(t, Crash(d, len(d.Loose)-1), []byte("x"))
			checkFull(t, Crash(d, len(d.Loose)-1), []byte("xy"))
		}
	}
}

func TestP5_2Known(t *testing.T) {
	for _, c := range []struct {
		d    api.Disk
		keep int
		want string
	}{
		{of("ab", "cd"), math.MinInt, "ab"},
		{of("ab", "cd"), -1, "ab"},
		{of("ab", "cd"), 0, "ab"},
		{of("ab", "cd"), 1, "abc"},
		{of("ab", "cd"), 2, "abcd"},
		{of("ab", "cd"), 3, "abcd"},
		{of("ab", "cd"), math.MaxInt, "abcd"},
		{of("ab", ""), 1, "ab"},
		{of("ab", ""), 0, "ab"},
		{of("ab", ""), -2, "ab"},
		{of("", "ab"), 0, ""},
		{of("", "ab"), -1, ""},
		{of("", "ab"), 1, "a"},
		{of("", "ab"), 9, "ab"},
		{of("", ""), 5, ""},
		{api.Disk{}, 0, ""},
	} {
		checkDisk(t, "Crash", Crash(c.d, c.keep), of(c.want, ""))
	}
}

func TestP5_2EachKeep(t *testing.T) {
	for _, d := range disks() {
		loose := len(d.Loose)
		for keep := range loose + 1 {
			checkCrash(t, d, keep, keep)
		}
		for _, keep := range []int{-1, -2, -loose - 1, -len(d.Fast), math.MinInt32, math.MinInt, math.MinInt + 1} {
			checkCrash(t, d, keep, 0)
		}
		for _, more := range []int{1, 2, len(d.Fast) + 1, 1 << 20} {
			checkCrash(t, d, loose+more, loose)
		}
		for _, keep := range []int{math.MaxInt32, math.MaxInt - 1, math.MaxInt} {
			checkCrash(t, d, keep, loose)
		}
	}
}

func TestP5_2AFullDisk(t *testing.T) {
	for _, d := range fullDisks() {
		loose := len(d.Loose)
		checkCrash(t, d, math.MinInt, 0)
		checkCrash(t, d, -1, 0)
		checkCrash(t, d, 0, 0)
		checkCrash(t, d, loose/2, loose/2)
		checkCrash(t, d, loose, loose)
		checkCrash(t, d, loose+1, loose)
		checkCrash(t, d, math.MaxInt, loose)
	}
}

func TestP5_2AGoneByteStaysGone(t *testing.T) {
	d := Crash(of("ab", "cdef"), 1)
	checkDisk(t, "Crash again", Crash(d, 3), of("abc", ""))
	checkDisk(t, "Sync behind", Sync(d), of("abc", ""))
	d, _ = Write(d, []byte("x"))
	checkDisk(t, "Write behind", d, of("abc", "x"))
}

func TestP5_3Known(t *testing.T) {
	for _, c := range []struct {
		d    api.Disk
		n    int
		want string
	}{
		{of("abc", "de"), 0, ""},
		{of("abc", "de"), 1, "a"},
		{of("abc", "de"), 2, "ab"},
		{of("abc", "de"), 3, "abc"},
		{of("abc", "de"), 4, "abcd"},
		{of("abc", "de"), 5, "abcde"},
		{of("", "de"), 1, "d"},
		{of("abc", ""), 3, "abc"},
		{of("", ""), 0, ""},
		{api.Disk{}, 0, ""},
	} {
		got, err := Cut(c.d, c.n)
		if err != api.OK {
			t.Errorf("Cut(%q, %q; %d): error %d", c.d.Fast, c.d.Loose, c.n, err)
		}
		checkDisk(t, "Cut", got, of(c.want, ""))
	}
}

func TestP5_3EachNumber(t *testing.T) {
	for _, d := range disks() {
		for n := range len(d.Fast) + len(d.Loose) + 1 {
			checkCut(t, d, n)
		}
	}
	for _, d := range fullDisks() {
		for _, n := range []int{0, 1, len(d.Fast) / 2, len(d.Fast), len(d.Fast) + len(d.Loose)/2, api.MaxDisk - 1, api.MaxDisk} {
			checkCut(t, d, n)
		}
	}
}

func TestP5_3NoSuchNumber(t *testing.T) {
	for _, d := range slices.Concat(disks(), fullDisks()) {
		whole := len(d.Fast) + len(d.Loose)
		for _, n := range []int{-1, -2, -whole - 1, math.MinInt32, math.MinInt + 1, math.MinInt} {
			checkNoCut(t, d, n)
		}
		for _, n := range []int{whole + 1, whole + 2, 2*whole + 1, math.MaxInt - 1, math.MaxInt} {
			checkNoCut(t, d, n)
		}
	}
}

func TestP5_3SpareRoomIsNotThere(t *testing.T) {
	d := api.Disk{Fast: some(20, 1)[:3], Loose: some(20, 2)[:4]}
	checkNoCut(t, d, 8)
	checkNoCut(t, d, 20)
	checkCut(t, d, 7)
	checkCrash(t, d, 20, 4)
	checkWrite(t, d, some(20, 3)[:2])
}

// call is one call of the layer, with its answers: those of bytes, one a list.
type call struct {
	name string
	do   func(d api.Disk, b []byte) [][]byte
}

// calls are all calls, each one at arguments that make it answer something.
func calls() []call {
	list := func(d api.Disk) [][]byte { return [][]byte{d.Fast, d.Loose} }
	return []call{
		{"All", func(d api.Disk, b []byte) [][]byte { return [][]byte{All(d)} }},
		{"Write", func(d api.Disk, b []byte) [][]byte { w, _ := Write(d, b); return list(w) }},
		{"Write nothing", func(d api.Disk, b []byte) [][]byte { w, _ := Write(d, b[:0]); return list(w) }},
		{"Sync", func(d api.Disk, b []byte) [][]byte { return list(Sync(d)) }},
		{"Crash keeping none", func(d api.Disk, b []byte) [][]byte { return list(Crash(d, 0)) }},
		{"Crash keeping some", func(d api.Disk, b []byte) [][]byte { return list(Crash(d, 2)) }},
		{"Crash keeping all", func(d api.Disk, b []byte) [][]byte { return list(Crash(d, math.MaxInt)) }},
		{"Cut within fast", func(d api.Disk, b []byte) [][]byte { c, _ := Cut(d, min(1, len(d.Fast))); return list(c) }},
		{"Cut behind fast", func(d api.Disk, b []byte) [][]byte { c, _ := Cut(d, len(d.Fast)); return list(c) }},
		{"Cut behind all", func(d api.Disk, b []byte) [][]byte { c, _ := Cut(d, len(d.Fast)+len(d.Loose)); return list(c) }},
	}
}

// turn turns all bytes of a list, those of its spare room too.
func turn(b []byte) {
	b = b[:cap(b)]
	for i := range b {
		b[i] ^= 0xff
	}
}

// arguments lie in one memory, one behind the other, so that the spare room of each is what follows.
func arguments(fast, loose, b int) (whole []byte, d api.Disk, p []byte) {
	whole = some(fast+loose+b+16, 9)
	return whole, api.Disk{Fast: whole[:fast], Loose: whole[fast : fast+loose]}, whole[fast+loose : fast+loose+b]
}

func clones(l [][]byte) [][]byte {
	var out [][]byte
	for _, b := range l {
		out = append(out, bytes.Clone(b))
	}
	return out
}

func equal(a, b [][]byte) bool {
	return slices.EqualFunc(a, b, bytes.Equal)
}

func checkMemory(t *testing.T, c call, fast, loose, b int) {
	t.Helper()
	whole, d, p := arguments(fast, loose, b)
	before := bytes.Clone(whole)
	answer := c.do(d, p)
	kept := clones(answer)
	again := c.do(d, p)
	if !bytes.Equal(whole, before) {
		t.Errorf("%s: what was handed in, or its spare room, was changed", c.name)
	}
	turn(whole)
	if !equal(answer, kept) {
		t.Errorf("%s: the answer shares memory with what was handed in", c.name)
	}
	turn(whole)
	for i, one := range answer {
		turn(one)
		if !equal(answer[i+1:], kept[i+1:]) {
			t.Errorf("%s: two lists of the answer share memory", c.name)
		}
	}
	if !bytes.Equal(whole, before) {
		t.Errorf("%s: the answer shares memory with what was handed in", c.name)
	}
	if !equal(again, kept) {
		t.Errorf("%s: two answers share memory", c.name)
	}
}

func TestAnswersAreNewMemory(t *testing.T) {
	for _, c := range calls() {
		for _, fast := range []int{0, 1, 5, 64} {
			for _, loose := range []int{0, 1, 3, 64} {
				for _, b := range []int{0, 1, 4, 64} {
					checkMemory(t, c, fast, loose, b)
				}
			}
		}
	}
}

func TestWhatIsRefusedIsNotChanged(t *testing.T) {
	whole, d, _ := arguments(5, 4, 0)
	before := bytes.Clone(whole)
	Cut(d, -1)
	Cut(d, 10)
	Write(d, make([]byte, api.MaxDisk))
	if !bytes.Equal(whole, before) {
		t.Error("what was handed in, or its spare room, was changed")
	}
}

// step is a write, a sync or a crash.
type step struct {
	kind int
	b    []byte
	keep int
}

const (
	writes = iota
	syncs
	crashes
)

func (s step) on(d api.Disk) api.Disk {
	switch s.kind {
	case writes:
		if w, err := Write(d, s.b); err == api.OK {
			return w
		}
		return d
	case syncs:
		return Sync(d)
	}
	return Crash(d, s.keep)
}

// told follows the steps of a row by its own means.
type told struct {
	written []byte // all that stayed of what was written
	fast    int    // how many of these stand fast
}

func (m told) behind(s step) told {
	switch s.kind {
	case writes:
		if len(m.written)+len(s.b) > api.MaxDisk {
			return m
		}
		return told{append(bytes.Clone(m.written), s.b...), m.fast}
	case syncs:
		return told{m.written, len(m.written)}
	}
	stays := m.fast + min(max(s.keep, 0), len(m.written)-m.fast)
	return told{m.written[:stays], stays}
}

// checkStep does a step, and asks that what stood fast stays, and of the rest a beginning.
func checkStep(t *testing.T, d api.Disk, m told, s step) (api.Disk, told) {
	t.Helper()
	ahead, stood := All(d), bytes.Clone(d.Fast)
	got, want := s.on(d), m.behind(s)
	if !bytes.HasPrefix(got.Fast, stood) {
		t.Fatalf("%+v of %.40q, %.40q: what stood fast isn't there: %.40q", s, d.Fast, d.Loose, got.Fast)
	}
	if s.kind == crashes && !bytes.HasPrefix(ahead, All(got)) {
		t.Fatalf("%+v of %.40q, %.40q: no beginning of it stayed: %.40q", s, d.Fast, d.Loose, All(got))
	}
	if s.kind != crashes && !bytes.HasPrefix(All(got), ahead) {
		t.Fatalf("%+v of %.40q, %.40q: it isn't all there: %.40q", s, d.Fast, d.Loose, All(got))
	}
	if s.kind != writes && len(got.Loose) > 0 {
		t.Fatalf("%+v of %.40q, %.40q: there are loose bytes: %.40q", s, d.Fast, d.Loose, got.Loose)
	}
	checkDisk(t, "a row", got, api.Disk{Fast: want.written[:want.fast], Loose: want.written[want.fast:]})
	return got, want
}

// goOn does all rows of that many steps.
func goOn(t *testing.T, d api.Disk, m told, all []step, left int) {
	if left == 0 || t.Failed() {
		return
	}
	for _, s := range all {
		next, then := checkStep(t, d, m, s)
		goOn(t, next, then, all, left-1)
	}
}

func TestP5_4EachShortRow(t *testing.T) {
	all := []step{
		{kind: writes, b: []byte("a")},
		{kind: writes, b: []byte("bcd")},
		{kind: syncs},
		{kind: crashes, keep: -1},
		{kind: crashes, keep: 0},
		{kind: crashes, keep: 1},
		{kind: crashes, keep: 3},
		{kind: crashes, keep: 100},
	}
	goOn(t, api.Disk{}, told{}, all, 6)
	goOn(t, of("fast", "loose"), told{[]byte("fastloose"), 4}, all, 3)
}

// longRow does n steps, each one by what state says.
func longRow(t *testing.T, d api.Disk, n, most int, state uint32) {
	m := told{All(d), len(d.Fast)}
	next := func(below int) int {
		state = state*1664525 + 1013904223
		return int(state>>8) % below
	}
	for range n {
		var s step
		switch k := next(8); {
		case k < 5:
			s = step{kind: writes, b: some(next(most), state)}
		case k < 6:
			s = step{kind: syncs}
		default:
			s = step{kind: crashes, keep: next(len(d.Loose)+4) - 2}
		}
		d, m = checkStep(t, d, m, s)
	}
}

func TestP5_4LongRows(t *testing.T) {
	for seed := range uint32(300) {
		longRow(t, api.Disk{}, 60, 12, seed)
		longRow(t, filled(int(seed), 10), 20, 200, seed)
	}
}

func TestP5_4RowsAtTheEnd(t *testing.T) {
	for seed := range uint32(3) {
		longRow(t, filled(api.MaxDisk-20, 10), 15, 12, seed)
		longRow(t, filled(0, api.MaxDisk-20), 15, 12, seed)
		longRow(t, api.Disk{}, 12, api.MaxDisk, seed)
	}
}

func TestP5_4ManyCrashes(t *testing.T) {
	d := Sync(of("", "stood fast"))
	for n := range 50 {
		d, _ = Write(d, some(n, 1))
		for range n % 4 {
			d = Crash(d, -n)
		}
		d = Crash(d, 0)
		checkDisk(t, "many crashes", d, of("stood fast", ""))
	}
}

func TestP5_4AllThatMayStay(t *testing.T) {
	// Of two writes, the second one never stays without the whole of the first one.
	d, _ := Write(of("ab", ""), []byte("cd"))
	d, _ = Write(d, []byte("ef"))
	for keep, want := range []string{"ab", "abc", "abcd", "abcde", "abcdef", "abcdef"} {
		if got := All(Crash(d, keep)); string(got) != want {
			t.Errorf("Crash keeping %d: %q; want %q", keep, got, want)
		}
	}
}
