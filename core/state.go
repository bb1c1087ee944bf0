package core

import (
	"slices"

	"buttery/api"
	"buttery/order"
	"buttery/past"
	"buttery/store"
	"buttery/vec"
)

// isCore tells whether a node is one of the cores.
func isCore(c api.Core, node int) bool { return node >= 0 && node < min(c.Cores, api.MaxCores) }

// isOther tells whether a node is a core, but not c itself.
func isOther(c api.Core, node int) bool { return isCore(c, node) && node != c.Me }

// isEdge tells whether a node is no core, nor c itself.
func isEdge(c api.Core, node int) bool {
	return node >= 0 && node < api.MaxNodes && !isCore(c, node) && node != c.Me
}

// learn those of l that can be learnt. All are laid behind the past at once, lest a long list be copied for each of them.
func learn(c api.Core, l []api.Txn) api.Core {
	c = alone(c)
	l = learnt(c, l)
	c.Store, _ = store.All(c.Store, l)
	c.Past.List = append(c.Past.List, l...)
	return c
}

// learnt is those of l, which are formed, that the store takes and the past keeps, each time the first one of those that are left. Of a node that these two have heard unlike nothing is ready for both; in a core that New and Do made there is none such.
func learnt(c api.Core, l []api.Txn) []api.Txn {
	end := past.End(c.Past)
	unlike := func(t api.Txn) bool { return vec.At(c.Store.Heard, t.Node) != vec.At(end, t.Node) }
	l = slices.DeleteFunc(slices.Clone(l), unlike)
	taken, _ := order.Take(vec.Meet(c.Store.Heard, end), l)
	room := max(api.MaxTxns-len(c.Past.List), 0)
	return taken[:min(room, len(taken))]
}

// hear that the core j has heard v.
func hear(c api.Core, j int, v api.Vec) api.Core {
	c = alone(c)
	c.Known[j] = vec.Join(c.Known[j], v)
	return c
}

// prune what all cores have heard. Of c itself its store tells that.
func prune(c api.Core) api.Core {
	c = alone(c)
	to := c.Store.Heard
	for j, v := range c.Known {
		if j != c.Me {
			to = vec.Meet(to, v)
		}
	}
	c.Past = past.Prune(c.Past, to)
	return c
}

// known is of each core what it is known to have heard, in memory of its own.
func known(c api.Core) []api.Vec {
	l := make([]api.Vec, max(min(c.Cores, api.MaxCores), 0))
	for j := range min(len(l), len(c.Known)) {
		l[j] = slices.Clone(c.Known[j])
	}
	return l
}

// alone is c in memory of its own.
func alone(c api.Core) api.Core {
	c.Store = api.Store{Heard: slices.Clone(c.Store.Heard), Items: slices.Clone(c.Store.Items)}
	c.Past = api.Past{Floor: slices.Clone(c.Past.Floor), List: aloneTxns(c.Past.List)}
	c.Known = known(c)
	return c
}

// aloneTxns is l in memory of its own.
func aloneTxns(l []api.Txn) []api.Txn {
	l = slices.Clone(l)
	for i, t := range l {
		effs := slices.Clone(t.Effs)
		for j, e := range effs {
			effs[j].Drops = slices.Clone(e.Drops)
		}
		l[i].Deps, l[i].Effs = slices.Clone(t.Deps), effs
	}
	return l
}
