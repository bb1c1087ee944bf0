package core

import (
	"slices"

	"buttery/api"
	"buttery/past"
	"buttery/store"
	"buttery/txn"
)

// fill is what a core that has heard v lacks; false: it lacks nothing, or some of it is not kept any more.
func fill(c api.Core, v api.Vec) ([]byte, bool) {
	l, err := past.Since(c.Past, v)
	if err != api.OK || len(l) == 0 {
		return nil, false
	}
	return put(api.Msg{Kind: api.Fill, Txns: l})
}

// delta is what an edge that pulls lacks of what it wants; false: it has to be told all anew.
func delta(c api.Core, pull api.Msg) ([]byte, bool) {
	if pull.Whole || !slices.Equal(pull.Zone, pull.Want) {
		return nil, false
	}
	l, err := past.Since(c.Past, pull.Vec)
	if err != api.OK {
		return nil, false
	}
	for i, t := range l {
		l[i] = txn.Only(t, pull.Want)
	}
	return put(api.Msg{
		Kind: api.Delta, Ticket: pull.Ticket,
		From: pull.Vec, Vec: c.Store.Heard,
		Want: pull.Want, Txns: l,
	})
}

// push is all that an edge that pulls wants; false: that is more than a message holds.
func push(c api.Core, pull api.Msg) ([]byte, bool) {
	wanted := store.Under(c.Store, pull.Want)
	return put(api.Msg{
		Kind: api.Push, Ticket: pull.Ticket,
		Vec: wanted.Heard, Want: pull.Want,
		Items: wanted.Items,
	})
}
