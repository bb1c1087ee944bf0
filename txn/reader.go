package txn

import (
	"buttery/api"
	"buttery/bin"
)

const (
	numBytes = 8 // of a number, at most
	intBytes = 8 // of a whole number
)

// reader goes through bytes and keeps its first error; behind that it reads nothing more, and answers zero values.
type reader struct {
	rest []byte
	err  api.Errno
}

// txn is a transaction, formed or not. Here and below, the calls of a literal come in the order of the bytes.
func (r *reader) txn() api.Txn {
	return api.Txn{Node: r.num(), Seq: r.num(), Deps: r.deps(), Effs: r.effs()}
}

func (r *reader) deps() api.Vec {
	var v api.Vec
	for range r.count(api.MaxNodes) {
		v = append(v, r.num())
	}
	return v
}

func (r *reader) effs() []api.Eff {
	var l []api.Eff
	for range r.count(api.MaxOps) {
		l = append(l, r.eff())
	}
	return l
}

func (r *reader) eff() api.Eff {
	return api.Eff{
		At: r.num(), Key: r.text(), Field: r.text(),
		Kind: r.num(), Elem: r.text(), N: r.whole(),
		Drops: r.drops(),
	}
}

func (r *reader) drops() []api.Dot {
	var l []api.Dot
	for range r.count(api.MaxDrops) {
		l = append(l, api.Dot{Node: r.num(), Seq: r.num(), At: r.num()})
	}
	return l
}

// count is how many things of a list are told; more than most are an error at once.
func (r *reader) count(most int) int {
	n := r.num()
	if n > most {
		r.err = api.ErrForm
		return 0
	}
	return n
}

func (r *reader) num() int { return take(r, numBytes, bin.Num) }

func (r *reader) whole() int64 { return take(r, intBytes, bin.Int) }

func (r *reader) text() string {
	// Where the length can't be read bin.Text tells why, too.
	length, _, _ := bin.Num(r.first(numBytes))
	return take(r, numBytes+length, bin.Text)
}

// first is the first n bytes that are left, or all of them.
func (r *reader) first(n int) []byte { return r.rest[:min(n, len(r.rest))] }

// take reads one thing that has at most so many bytes. No more of them are handed to bin, since it copies the rest.
func take[T any](r *reader, most int, read func([]byte) (T, []byte, api.Errno)) T {
	var none T
	if r.err != api.OK {
		return none
	}
	piece := r.first(most)
	x, left, err := read(piece)
	if err != api.OK {
		r.err = err
		return none
	}
	r.rest = r.rest[len(piece)-len(left):]
	return x
}
