package order

import (
	"container/heap"
	"sort"

	"buttery/api"
	"buttery/txn"
	"buttery/vec"
)

// waiting are the transactions of a list that were not taken yet, by their places in it. Each waits behind one that it lacks, so that it is asked again only when that was heard, and a long list in a bad order is gone through no more often than a short one.
type waiting struct {
	list   []api.Txn
	heard  api.Vec
	ready  places
	behind map[api.Dot][]int
}

// wait lays a place behind a transaction that it lacks, or among those that are ready.
func (w *waiting) wait(place int) {
	if d, lacks := lacking(w.heard, w.list[place]); lacks {
		w.behind[d] = append(w.behind[d], place)
		return
	}
	heap.Push(&w.ready, place)
}

// next takes the first place that is ready out of those that wait. One that lacks nothing still isn't ready, if it was heard already, as another one of its name may have been by now.
func (w *waiting) next() (int, bool) {
	for w.ready.Len() > 0 {
		place := heap.Pop(&w.ready).(int)
		if Ready(w.heard, w.list[place]) {
			return place, true
		}
	}
	return 0, false
}

// hear counts a transaction that was taken as heard, and asks those again that lacked it; where no vector can say that it was heard, they go on lacking it.
func (w *waiting) hear(t api.Txn) {
	w.heard = Next(w.heard, t)
	d := txn.Dot(t)
	if !vec.Has(w.heard, d) {
		return
	}
	for _, place := range w.behind[d] {
		w.wait(place)
	}
}

// lacking is the name of one that t waits for: the one ahead of it of its own node, or the last one of a node that its Deps tell of.
func lacking(v api.Vec, t api.Txn) (api.Dot, bool) {
	if t.Seq-1 > vec.At(v, t.Node) {
		return api.Dot{Node: t.Node, Seq: t.Seq - 1}, true
	}
	for node := range t.Deps {
		if n := vec.At(t.Deps, node); n > vec.At(v, node) {
			return api.Dot{Node: node, Seq: n}, true
		}
	}
	return api.Dot{}, false
}

// places are a heap of places in a list, the first one at the top.
type places struct{ sort.IntSlice }

// Push is heap's.
func (p *places) Push(place any) { p.IntSlice = append(p.IntSlice, place.(int)) }

// Pop is heap's.
func (p *places) Pop() any {
	last := len(p.IntSlice) - 1
	place := p.IntSlice[last]
	p.IntSlice = p.IntSlice[:last]
	return place
}
