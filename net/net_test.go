package net

import (
	"bytes"
	"fmt"
	"maps"
	"math"
	"slices"
	"testing"

	"buttery/api"
)

const maxMsgs = 64

// packet is a packet of these parts.
func packet(from, to int, b string) api.Packet {
	return api.Packet{From: from, To: to, Bytes: []byte(b)}
}

// on is the network of these packets.
func on(l ...api.Packet) api.Net { return api.Net{Way: l} }

// row are n packets, no two of them alike. Some have no bytes.
func row(n int) []api.Packet {
	var l []api.Packet
	for i := range n {
		l = append(l, packet(i, i%3, fmt.Sprint("packet ", i)[:i%9]))
	}
	return l
}

// ints are nodes, such as there are and such as there are not.
func ints() []int {
	return []int{
		math.MinInt, math.MinInt + 1, -1 << 40, -1<<32 + 1, math.MinInt32, -65, -8, -2, -1, 0, 1, 2, 3, 7, 8, 9,
		63, 64, 65, 255, 256, math.MaxInt32, 1 << 31, 1 << 32, 1<<32 + 1, math.MaxInt - 1, math.MaxInt,
	}
}

// pieces are bytes that may be sent.
func pieces() [][]byte {
	return [][]byte{
		nil, {}, {0}, {0xff}, {0, 0, 0}, []byte("a"), []byte("some bytes"), []byte("\xff\x00\x80\n"),
		make([]byte, 1000), bytes.Repeat([]byte{7}, api.MaxFrame+1),
	}
}

// outside are numbers of packets that a network of n packets doesn't have.
func outside(n int) []int {
	return []int{
		math.MinInt, math.MinInt + 1, -1 << 32, -1<<32 + 1, math.MinInt32, -n - 1, -2, -1,
		n, n + 1, 2*n + 1, n + 256, n + 1<<32, math.MaxInt32, math.MaxInt - 1, math.MaxInt,
	}
}

// copyOf is what a network says, in memory of its own.
func copyOf(n api.Net) api.Net {
	var l []api.Packet
	for _, p := range n.Way {
		l = append(l, packet(p.From, p.To, string(p.Bytes)))
	}
	return on(l...)
}

// without is the network of these packets but the i-th one.
func without(l []api.Packet, i int) api.Net {
	var left []api.Packet
	for j, p := range l {
		if j != i {
			left = append(left, p)
		}
	}
	return on(left...)
}

// same and sameNet tell whether two are the same, lists that are nil like empty ones.
func same(a, b api.Packet) bool {
	return a.From == b.From && a.To == b.To && bytes.Equal(a.Bytes, b.Bytes)
}

func sameNet(a, b api.Net) bool { return slices.EqualFunc(a.Way, b.Way, same) }

// isZero tells whether p says nothing.
func isZero(p api.Packet) bool { return p.From == 0 && p.To == 0 && len(p.Bytes) == 0 }

// short tells a value, no longer than one can read.
func short(v any) string {
	s := fmt.Sprintf("%+v", v)
	if len(s) > 1500 {
		return s[:1500] + ".."
	}
	return s
}

func checkNet(t *testing.T, what string, got, want api.Net) {
	t.Helper()
	if !sameNet(got, want) {
		t.Errorf("%s = %d packets, %s; want %d packets, %s", what, len(got.Way), short(got), len(want.Way), short(want))
	}
}

func checkErr(t *testing.T, what string, got, want api.Errno) {
	t.Helper()
	if got != want {
		t.Errorf("%s: error %d; want %d", what, got, want)
	}
}

func checkSend(t *testing.T, n api.Net, from, to int, b []byte, want api.Net, wantErr api.Errno) {
	t.Helper()
	what := fmt.Sprintf("Send(%d packets, %d, %d, %d bytes)", len(n.Way), from, to, len(b))
	got, err := Send(n, from, to, b)
	checkErr(t, what, err, wantErr)
	checkNet(t, what, got, want)
}

func checkTake(t *testing.T, n api.Net, i int, want api.Packet, left api.Net, wantErr api.Errno) {
	t.Helper()
	what := fmt.Sprintf("Take(%d packets, %d)", len(n.Way), i)
	p, got, err := Take(n, i)
	checkErr(t, what, err, wantErr)
	checkNet(t, what, got, left)
	if !same(p, want) {
		t.Errorf("%s = %s; want %s", what, short(p), short(want))
	}
}

func checkTwice(t *testing.T, n api.Net, i int, want api.Net, wantErr api.Errno) {
	t.Helper()
	what := fmt.Sprintf("Twice(%d packets, %d)", len(n.Way), i)
	got, err := Twice(n, i)
	checkErr(t, what, err, wantErr)
	checkNet(t, what, got, want)
}

// checkNone asks Take and Twice for a packet that is not on the way.
func checkNone(t *testing.T, n api.Net, i int) {
	t.Helper()
	checkTake(t, n, i, api.Packet{}, api.Net{}, api.ErrNone)
	checkTwice(t, n, i, api.Net{}, api.ErrNone)
}

func TestP18_1TheExample(t *testing.T) {
	n, err := Send(api.Net{}, 0, 1, []byte("first"))
	checkErr(t, "Send", err, api.OK)
	checkNet(t, "Send", n, on(packet(0, 1, "first")))
	n, err = Send(n, 1, 0, []byte("second"))
	checkErr(t, "Send", err, api.OK)
	checkNet(t, "Send", n, on(packet(0, 1, "first"), packet(1, 0, "second")))
	n, err = Twice(n, 0)
	checkErr(t, "Twice", err, api.OK)
	checkNet(t, "Twice", n, on(packet(0, 1, "first"), packet(1, 0, "second"), packet(0, 1, "first")))
	p, n, err := Take(n, 1)
	checkErr(t, "Take", err, api.OK)
	checkNet(t, "Take", n, on(packet(0, 1, "first"), packet(0, 1, "first")))
	if !same(p, packet(1, 0, "second")) {
		t.Errorf("Take = %s; want the second one", short(p))
	}
}

func TestP18_1SendBehindAll(t *testing.T) {
	for size := range maxMsgs {
		l := row(size)
		for _, b := range pieces()[:8] {
			want := on(append(row(size), packet(5, 6, string(b)))...)
			checkSend(t, on(l...), 5, 6, b, want, api.OK)
		}
	}
}

func TestP18_1SendAnyBytes(t *testing.T) {
	for _, b := range pieces() {
		p := api.Packet{From: 1, To: 2, Bytes: b}
		checkSend(t, api.Net{}, 1, 2, b, on(p), api.OK)
		checkSend(t, api.Net{Way: []api.Packet{}}, 1, 2, b, on(p), api.OK)
		checkSend(t, on(p), 1, 2, b, on(p, p), api.OK)
		checkTake(t, on(p), 0, p, api.Net{}, api.OK)
		checkTwice(t, on(p), 0, on(p, p), api.OK)
	}
}

func TestP18_1AnyFromAndTo(t *testing.T) {
	first := packet(3, 4, "first")
	for _, from := range ints() {
		for _, to := range ints() {
			p := packet(from, to, "b")
			checkSend(t, api.Net{}, from, to, []byte("b"), on(p), api.OK)
			checkSend(t, on(first), from, to, []byte("b"), on(first, p), api.OK)
			checkTake(t, on(first, p), 1, p, on(first), api.OK)
			checkTake(t, on(first, p), 0, first, on(p), api.OK)
			checkTwice(t, on(p, first), 0, on(p, first, p), api.OK)
			checkTwice(t, on(p, first), 1, on(p, first, first), api.OK)
		}
	}
}

func TestP18_1SendUntilItIsFull(t *testing.T) {
	n := api.Net{}
	for i, p := range row(maxMsgs) {
		var err api.Errno
		n, err = Send(n, p.From, p.To, p.Bytes)
		checkErr(t, "Send", err, api.OK)
		checkNet(t, "Send", n, on(row(i+1)...))
	}
	checkSend(t, n, 1, 2, []byte("more"), api.Net{}, api.ErrFull)
	checkNet(t, "behind a refused Send", n, on(row(maxMsgs)...))
	_, n, _ = Take(n, 10)
	want := append(without(row(maxMsgs), 10).Way, packet(1, 2, "more"))
	checkSend(t, n, 1, 2, []byte("more"), on(want...), api.OK)
}

func TestP18_1SendWithoutRoom(t *testing.T) {
	for _, size := range []int{maxMsgs, maxMsgs + 1, maxMsgs + 2, 2 * maxMsgs, 255, 256, 257, 10000} {
		n := on(row(size)...)
		for _, b := range pieces()[:8] {
			checkSend(t, n, 1, 2, b, api.Net{}, api.ErrFull)
		}
		for _, node := range ints() {
			checkSend(t, n, node, -node, nil, api.Net{}, api.ErrFull)
		}
	}
	last := packet(1, 2, "last")
	checkSend(t, on(row(maxMsgs-1)...), 1, 2, []byte("last"), on(append(row(maxMsgs-1), last)...), api.OK)
}

func TestP18_1TakeEach(t *testing.T) {
	for _, size := range []int{1, 2, 3, 4, 20, maxMsgs - 1, maxMsgs, maxMsgs + 1, 2 * maxMsgs, 300} {
		l := row(size)
		for i := range size {
			checkTake(t, on(l...), i, l[i], without(l, i), api.OK)
		}
	}
}

func TestP18_1TwiceEach(t *testing.T) {
	for _, size := range []int{1, 2, 3, 4, 20, maxMsgs - 2, maxMsgs - 1} {
		l := row(size)
		for i := range size {
			checkTwice(t, on(l...), i, on(append(row(size), l[i])...), api.OK)
		}
	}
}

func TestP18_1TwiceWithoutRoom(t *testing.T) {
	for _, size := range []int{maxMsgs, maxMsgs + 1, maxMsgs + 2, 2 * maxMsgs, 300} {
		n := on(row(size)...)
		for i := range size {
			checkTwice(t, n, i, api.Net{}, api.ErrFull)
		}
		for _, i := range outside(size) {
			checkTwice(t, n, i, api.Net{}, api.ErrNone)
		}
	}
}

func TestP18_1NoSuchPacket(t *testing.T) {
	for _, size := range []int{0, 1, 2, 3, maxMsgs - 1, maxMsgs, maxMsgs + 1, 2 * maxMsgs} {
		for _, i := range outside(size) {
			checkNone(t, on(row(size)...), i)
		}
	}
	for _, i := range ints() {
		checkNone(t, api.Net{}, i)
		checkNone(t, api.Net{Way: []api.Packet{}}, i)
	}
}

func TestP18_1SpareRoomIsNotThere(t *testing.T) {
	for _, size := range []int{0, 1, 3, maxMsgs - 1} {
		l := row(size + 5)
		n := on(l[:size]...)
		for i := size; i < size+5; i++ {
			checkNone(t, n, i)
		}
		checkSend(t, n, 1, 2, l[4].Bytes[:2], on(append(row(size), packet(1, 2, "pa"))...), api.OK)
	}
	p := packet(1, 2, "seen, and spare")
	p.Bytes = p.Bytes[:4]
	seen := packet(1, 2, "seen")
	checkTake(t, on(p, p), 0, seen, on(seen), api.OK)
	checkTwice(t, on(p), 0, on(seen, seen), api.OK)
}

func TestP18_1LikePacketsAreCountedOneByOne(t *testing.T) {
	p, q := packet(0, 1, "p"), packet(0, 1, "q")
	checkSend(t, on(p, p), 0, 1, []byte("p"), on(p, p, p), api.OK)
	checkTake(t, on(p, q, p, q), 0, p, on(q, p, q), api.OK)
	checkTake(t, on(p, q, p, q), 2, p, on(p, q, q), api.OK)
	checkTake(t, on(p, q, p, q), 3, q, on(p, q, p), api.OK)
	checkTwice(t, on(p, q, p), 1, on(p, q, p, q), api.OK)
	checkTwice(t, on(p, q, p), 2, on(p, q, p, p), api.OK)
}

func TestP18_1BesideAnErrorThereIsNothing(t *testing.T) {
	for _, size := range []int{0, 1, 3, maxMsgs, maxMsgs + 1} {
		l := row(size)
		for _, i := range outside(size) {
			if p, n, err := Take(on(l...), i); err == api.OK || !isZero(p) || len(n.Way) > 0 {
				t.Errorf("Take(%d packets, %d) = %s, %s, error %d", size, i, short(p), short(n), err)
			}
			if n, err := Twice(on(l...), i); err == api.OK || len(n.Way) > 0 {
				t.Errorf("Twice(%d packets, %d) = %s, error %d", size, i, short(n), err)
			}
		}
	}
}

// told is what a packet says, as a value.
type told struct {
	from, to int
	text     string
}

// way is a plain list of what is on the way.
type way []told

func (w way) net() api.Net {
	var l []api.Packet
	for _, p := range w {
		l = append(l, packet(p.from, p.to, p.text))
	}
	return on(l...)
}

// behind is the list with one more.
func (w way) behind(p told) way { return append(slices.Clone(w), p) }

// left is the list without the i-th one.
func (w way) left(i int) way { return slices.Delete(slices.Clone(w), i, i+1) }

// step is a call: to send a packet, to take one or to double one.
type step struct {
	kind, i int
	p       told
}

const (
	sends = iota
	takes
	doubles
)

// of is what the document says of a step: what is on the way then, and its error.
func (s step) of(w way) (way, api.Errno) {
	none, full := s.i < 0 || s.i >= len(w), len(w) >= 64
	switch {
	case s.kind != sends && none:
		return nil, api.ErrNone
	case s.kind != takes && full:
		return nil, api.ErrFull
	case s.kind == sends:
		return w.behind(s.p), api.OK
	case s.kind == doubles:
		return w.behind(w[s.i]), api.OK
	}
	return w.left(s.i), api.OK
}

// on does the step, and tells which packet that took.
func (s step) on(n api.Net) (api.Packet, api.Net, api.Errno) {
	switch s.kind {
	case sends:
		n, err := Send(n, s.p.from, s.p.to, []byte(s.p.text))
		return api.Packet{}, n, err
	case doubles:
		n, err := Twice(n, s.i)
		return api.Packet{}, n, err
	}
	return Take(n, s.i)
}

// checkStep does a step where w is on the way, and answers what is there behind it. What is refused changes nothing.
func checkStep(t *testing.T, n api.Net, w way, s step) (api.Net, way) {
	t.Helper()
	what := fmt.Sprintf("%+v of %d packets", s, len(w))
	p, got, err := s.on(n)
	want, wantErr := s.of(w)
	checkErr(t, what, err, wantErr)
	checkNet(t, what, got, want.net())
	var taken told
	if s.kind == takes && wantErr == api.OK {
		taken = w[s.i]
	}
	if tell(p) != taken {
		t.Errorf("%s took %s; want %+v", what, short(p), taken)
	}
	if wantErr != api.OK {
		return n, w
	}
	return got, want
}

// goOn does all runs of that many steps. Networks that others went on from stay as they were.
func goOn(t *testing.T, n api.Net, w way, all []step, left int) {
	if left == 0 || t.Failed() {
		return
	}
	for _, s := range all {
		next, then := checkStep(t, n, w, s)
		goOn(t, next, then, all, left-1)
	}
	checkNet(t, "a network that others went on from", n, w.net())
}

// shortSteps are steps of all kinds, to which there is something near the beginning.
func shortSteps() []step {
	return []step{
		{kind: sends, p: told{0, 1, "x"}},
		{kind: sends, p: told{1, 0, ""}},
		{kind: takes, i: 0},
		{kind: takes, i: 1},
		{kind: takes, i: 2},
		{kind: doubles, i: 0},
		{kind: doubles, i: 1},
	}
}

// named is a list of n packets, no two of them alike.
func named(n int) way {
	var w way
	for i := range n {
		w = append(w, told{i, -i, fmt.Sprint("named ", i)})
	}
	return w
}

func TestP18_2EachShortRun(t *testing.T) {
	goOn(t, api.Net{}, nil, shortSteps(), 6)
}

func TestP18_2EachShortRunWhereItIsFull(t *testing.T) {
	for size := maxMsgs - 2; size <= maxMsgs+2; size++ {
		goOn(t, named(size).net(), named(size), shortSteps(), 3)
	}
}

// chance answers numbers that are always the same for a seed.
func chance(seed uint32) func(below int) int {
	state := seed
	return func(below int) int {
		state = state*1664525 + 1013904223
		return int(state>>8) % below
	}
}

// someStep is the number-th step, where there are size packets. Of ten, as many as more says send or double; a few name a packet that isn't there.
func someStep(size, number, more int, next func(int) int) step {
	s := step{i: next(size+1) - next(8)/7, p: told{next(8), next(8), fmt.Sprint(number, " ", next(1000))}}
	switch {
	case next(10) >= more:
		s.kind = takes
	case next(3) == 0:
		s.kind = doubles
	}
	return s
}

// outcome is a kind of steps, and the error that they had.
type outcome struct {
	kind int
	err  api.Errno
}

// longRun does n steps from w on, and counts what became of them.
func longRun(t *testing.T, w way, n, more int, next func(int) int, counts map[outcome]int) {
	all := w.net()
	for number := range n {
		if t.Failed() {
			return
		}
		s := someStep(len(w), number, more, next)
		_, err := s.of(w)
		counts[outcome{s.kind, err}]++
		all, w = checkStep(t, all, w, s)
	}
}

// checkOutcomes asks that a test had enough of all that may become of steps.
func checkOutcomes(t *testing.T, counts map[outcome]int) {
	t.Helper()
	for _, o := range []outcome{
		{sends, api.OK}, {sends, api.ErrFull},
		{takes, api.OK}, {takes, api.ErrNone},
		{doubles, api.OK}, {doubles, api.ErrFull}, {doubles, api.ErrNone},
	} {
		if counts[o] < 100 {
			t.Errorf("only %d steps of kind %d with error %d", counts[o], o.kind, o.err)
		}
	}
}

func TestP18_2LongRuns(t *testing.T) {
	counts := map[outcome]int{}
	for more := 1; more < 10; more++ {
		for seed := range uint32(10) {
			longRun(t, nil, 400, more, chance(seed*31+uint32(more)), counts)
		}
	}
	checkOutcomes(t, counts)
}

func TestP18_2LongRunsFromAFullNetwork(t *testing.T) {
	counts := map[outcome]int{}
	for _, size := range []int{maxMsgs - 1, maxMsgs, maxMsgs + 1, 3 * maxMsgs} {
		for more := 1; more < 10; more += 2 {
			longRun(t, named(size), 400, more, chance(uint32(size*more)), counts)
		}
	}
	checkOutcomes(t, counts)
}

// tell is what p says.
func tell(p api.Packet) told { return told{p.From, p.To, string(p.Bytes)} }

// stillThere counts how often each packet was sent or doubled and not taken, behind one more step from n on.
func stillThere(counts map[told]int, n api.Net, s step, taken api.Packet) {
	switch s.kind {
	case sends:
		counts[s.p]++
	case doubles:
		counts[tell(n.Way[s.i])]++
	case takes:
		counts[tell(taken)]--
	}
}

func TestP18_2WhatWasSentOrDoubledAndNotTaken(t *testing.T) {
	for seed := range uint32(50) {
		next := chance(seed)
		n, counts := api.Net{}, map[told]int{}
		for number := range 300 {
			s := someStep(len(n.Way), number, 6, next)
			p, then, err := s.on(n)
			if err != api.OK {
				continue
			}
			stillThere(counts, n, s, p)
			n = then
			left := maps.Clone(counts)
			for _, q := range n.Way {
				left[tell(q)]--
			}
			for q, times := range left {
				if times != 0 {
					t.Fatalf("behind step %d, %+v: %+v is on the way %d times less than it should", number, s, q, times)
				}
			}
		}
	}
}

func TestP18_2InTheOrderInWhichItCame(t *testing.T) {
	// From is the number under which a packet was sent: none is doubled, so these only rise.
	for seed := range uint32(50) {
		next := chance(seed)
		n := api.Net{}
		for number := range 300 {
			if then, err := Send(n, number, 0, nil); next(10) < 6 && err == api.OK {
				n = then
			} else if _, then, err := Take(n, next(len(n.Way)+1)); err == api.OK {
				n = then
			}
			later := func(a, b api.Packet) int { return a.From - b.From }
			if !slices.IsSortedFunc(n.Way, later) {
				t.Fatalf("not in their order: %s", short(n))
			}
		}
	}
}

func TestP18_2OneIsTakenAsOftenAsItCame(t *testing.T) {
	n, _ := Send(api.Net{}, 1, 2, []byte("one"))
	for range maxMsgs - 1 {
		var err api.Errno
		n, err = Twice(n, len(n.Way)-1)
		checkErr(t, "Twice", err, api.OK)
	}
	checkTwice(t, n, 0, api.Net{}, api.ErrFull)
	for range maxMsgs {
		p, left, err := Take(n, len(n.Way)/2)
		checkErr(t, "Take", err, api.OK)
		if !same(p, packet(1, 2, "one")) || len(left.Way) != len(n.Way)-1 {
			t.Errorf("Take(%d packets) = %s, %d packets", len(n.Way), short(p), len(left.Way))
		}
		n = left
	}
	checkNone(t, n, 0)
}

// handed is what is handed in: a network and bytes, that lie in one memory, so that the spare room of each is what follows.
type handed struct {
	memory []byte
	all    []api.Packet
	n      api.Net
	b      []byte
}

// hand lays size packets of up to that many bytes; one alike has the bytes of the one ahead of it, in the same memory.
func hand(size, most int, alike bool) handed {
	memory := make([]byte, (size+4)*most+8)
	for i := range memory {
		memory[i] = byte(i*7 + 1)
	}
	h := handed{memory: memory}
	for i := range size + 3 {
		place := i * most
		if alike {
			place = i / 2 * most
		}
		h.all = append(h.all, api.Packet{From: i, To: -i, Bytes: memory[place : place+max(0, most-i%2)]})
	}
	h.n = on(h.all[:size]...)
	h.b = memory[(size+3)*most : (size+4)*most]
	if alike {
		h.b = memory[:most]
	}
	return h
}

// says is all that stands in what is handed in, its spare room too.
func (h handed) says() string { return fmt.Sprint(h.memory, h.all, len(h.n.Way), len(h.b)) }

// turn turns all that is handed in, its spare room too.
func (h handed) turn() {
	turnBytes(h.memory)
	turnPackets(h.all)
}

func turnBytes(b []byte) {
	b = b[:cap(b)]
	for i := range b {
		b[i] ^= 0xff
	}
}

// turnPackets turns what a list of packets says of them, but not their bytes.
func turnPackets(l []api.Packet) {
	l = l[:cap(l)]
	for i, p := range l {
		l[i] = api.Packet{From: ^p.From, To: ^p.To, Bytes: p.Bytes}
	}
}

// answer is what a call answers: a packet, where it answers one, and a network.
type answer struct {
	p api.Packet
	n api.Net
}

func (a answer) copy() answer {
	return answer{packet(a.p.From, a.p.To, string(a.p.Bytes)), copyOf(a.n)}
}

func (a answer) is(b answer) bool { return same(a.p, b.p) && sameNet(a.n, b.n) }

// lists are the lists of bytes of an answer, each with its name.
func (a answer) lists() map[string][]byte {
	l := map[string][]byte{"the packet's bytes": a.p.Bytes}
	for i, p := range a.n.Way {
		l[fmt.Sprint("the bytes of packet ", i)] = p.Bytes
	}
	return l
}

// calls are all calls, at arguments that make them answer something, and at such that they refuse.
func calls(size int) map[string]func(handed) answer {
	all := map[string]func(handed) answer{
		"Send":         func(h handed) answer { n, _ := Send(h.n, 5, 6, h.b); return answer{n: n} },
		"Send nothing": func(h handed) answer { n, _ := Send(h.n, 5, 6, h.b[:0]); return answer{n: n} },
		"Send, full": func(h handed) answer {
			n, _ := Send(on(slices.Repeat(h.all, 64)...), 5, 6, h.b)
			return answer{n: n}
		},
	}
	for i := -1; i <= size; i++ {
		all[fmt.Sprint("Take ", i)] = func(h handed) answer { p, n, _ := Take(h.n, i); return answer{p, n} }
		all[fmt.Sprint("Twice ", i)] = func(h handed) answer { n, _ := Twice(h.n, i); return answer{n: n} }
	}
	return all
}

// checkHanded asks that a call neither changes nor keeps what it is handed.
func checkHanded(t *testing.T, name string, call func(handed) answer, h handed) {
	t.Helper()
	before := h.says()
	got := call(h)
	if h.says() != before {
		t.Errorf("%s: what was handed in, or its spare room, was changed", name)
	}
	kept := got.copy()
	h.turn()
	if !got.is(kept) {
		t.Errorf("%s: the answer shares memory with what was handed in", name)
	}
	h.turn()
	again := call(h)
	if !again.is(kept) {
		t.Errorf("%s: another answer the second time", name)
	}
	for _, b := range got.lists() {
		turnBytes(b)
	}
	turnPackets(got.n.Way)
	if h.says() != before {
		t.Errorf("%s: what was handed in shares memory with the answer", name)
	}
	if !again.is(kept) {
		t.Errorf("%s: two answers share memory", name)
	}
}

// checkApart asks that no two lists of an answer share memory: who turns one changes no other one.
func checkApart(t *testing.T, name string, got answer) {
	t.Helper()
	for list, b := range got.lists() {
		others := got.copy().lists()
		turnBytes(b)
		for other, now := range got.lists() {
			if other != list && !bytes.Equal(now, others[other]) {
				t.Errorf("%s: %s share memory with %s", name, list, other)
			}
		}
		turnBytes(b)
	}
}

func TestNothingIsChangedOrShared(t *testing.T) {
	for _, size := range []int{0, 1, 2, 3, 7} {
		for _, most := range []int{0, 1, 2, 9, 64} {
			for _, alike := range []bool{false, true} {
				for name, call := range calls(size) {
					what := fmt.Sprintf("%s of %d packets of up to %d bytes, alike %v", name, size, most, alike)
					checkHanded(t, what, call, hand(size, most, alike))
					checkApart(t, what, call(hand(size, most, alike)))
				}
			}
		}
	}
}

func TestNothingIsChangedOrSharedNearTheBound(t *testing.T) {
	for _, size := range []int{maxMsgs - 1, maxMsgs, maxMsgs + 1} {
		for name, call := range calls(size) {
			what := fmt.Sprintf("%s of %d packets", name, size)
			checkHanded(t, what, call, hand(size, 3, false))
			checkApart(t, what, call(hand(size, 3, true)))
		}
	}
}

func TestWhoGoesOnFromOneNetworkChangesNoOther(t *testing.T) {
	// Two that send into one network would meet in its spare room.
	n, _ := Send(api.Net{}, 0, 1, []byte("first"))
	for range 20 {
		a, _ := Send(n, 1, 2, []byte("a"))
		want := copyOf(a)
		b, _ := Send(n, 3, 4, []byte("b"))
		Twice(n, 0)
		Take(n, 0)
		checkNet(t, "a network, behind another Send,", a, want)
		n = b
	}
}

func TestP18_1SameEachTime(t *testing.T) {
	for _, size := range []int{0, 1, 5, maxMsgs - 1, maxMsgs, maxMsgs + 1} {
		for name, call := range calls(size) {
			want := call(hand(size, 4, false))
			for range 3 {
				if got := call(hand(size, 4, false)); !got.is(want) {
					t.Errorf("%s of %d packets: another answer than before", name, size)
				}
			}
		}
	}
}
