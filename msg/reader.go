package msg

import (
	"buttery/api"
	"buttery/bin"
	"buttery/txn"
)

const (
	numBytes = 8       // of a number, at most
	intBytes = 8       // of a whole number
	txnBytes = 1 << 13 // more than a transaction that is formed has
)

// reader goes through bytes till something is no part of a message; behind that it reads nothing more, and answers zero values.
type reader struct {
	rest []byte
	bad  bool
}

// msg is a message, formed or not. Here and below, the calls of a literal come in the order of the bytes.
func (r *reader) msg() api.Msg {
	return api.Msg{
		Kind: r.num(), Ticket: r.num(), Whole: r.count(1) == 1,
		Vec: r.vec(), From: r.vec(),
		Zone: r.zone(), Want: r.zone(),
		Items: list(r, api.MaxItems, r.item),
		Txns:  list(r, api.MaxTxns, r.txn),
	}
}

func (r *reader) vec() api.Vec { return list(r, api.MaxNodes, r.num) }

func (r *reader) zone() []string { return list(r, api.MaxZone, r.text) }

func (r *reader) item() api.Item {
	return api.Item{
		Key: r.text(), Field: r.text(),
		Kind: r.num(), Elem: r.text(), N: r.whole(),
		Dot: api.Dot{Node: r.num(), Seq: r.num(), At: r.num()},
	}
}

// count is a number that may not be above most.
func (r *reader) count(most int) int {
	n := r.num()
	if n > most {
		r.bad = true
		return 0
	}
	return n
}

func (r *reader) num() int { return take(r, numBytes, bin.Num) }

func (r *reader) whole() int64 { return take(r, intBytes, bin.Int) }

func (r *reader) txn() api.Txn { return take(r, txnBytes, txn.Read) }

func (r *reader) text() string {
	// Where the length can't be read bin.Text doesn't read it either.
	length, _, _ := bin.Num(r.first(numBytes))
	return take(r, numBytes+length, bin.Text)
}

// first is the first n bytes that are left, or all of them.
func (r *reader) first(n int) []byte { return r.rest[:min(n, len(r.rest))] }

// list is things of which there are at most so many: how many, and each.
func list[T any](r *reader, most int, read func() T) []T {
	n := r.count(most)
	var l []T
	for len(l) < n && !r.bad {
		l = append(l, read())
	}
	return l
}

// take reads one thing that has at most so many bytes. No more of them are handed down, since the layers below copy the rest.
func take[T any](r *reader, most int, read func([]byte) (T, []byte, api.Errno)) T {
	var none T
	if r.bad {
		return none
	}
	piece := r.first(most)
	x, left, err := read(piece)
	if err != api.OK {
		r.bad = true
		return none
	}
	r.rest = r.rest[len(piece)-len(left):]
	return x
}
