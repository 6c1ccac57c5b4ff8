package net

import (
	"slices"

	"waymark/api"
	"waymark/daemon"
)

// lacks tells whether there is no router i. Of a nil net that is said only of one that none has; likewise below.
func (n *Net) lacks(i int) bool {
	if n == nil {
		return isNone(i, api.MaxRouters)
	}
	return isNone(i, len(n.routers))
}

// lacksCable tells whether there is no cable k.
func (n *Net) lacksCable(k int) bool {
	if n == nil {
		return isNone(k, mostCables)
	}
	return isNone(k, len(n.cables))
}

// lacksCircuit tells whether there is no circuit c of a router i.
func (n *Net) lacksCircuit(i, c int) bool {
	switch {
	case n.lacks(i):
		return true
	case n == nil:
		return isNone(c, api.MaxCircuits)
	}
	return isNone(c, len(n.routers[i].conf.Links))
}

// at answers the router i.
func (n *Net) at(i int) (*daemon.Daemon, api.Errno) {
	switch {
	case n.lacks(i):
		return nil, api.ErrArg
	case n == nil:
		return nil, api.ErrNone
	}
	return n.routers[i].Daemon, api.OK
}

// Routes answers a router's routes of the topology t.
func (n *Net) Routes(router, t int) ([]api.Route, api.Errno) {
	d, e := n.at(router)
	return d.Routes(t), e
}

// Find answers a router's route with the longest prefix that addr begins with; false: there is none.
func (n *Net) Find(router int, fam byte, addr [16]byte) (api.Route, bool, api.Errno) {
	d, e := n.at(router)
	r, found, f := d.Find(fam, addr)
	return r, found, least(e, f)
}

// Entries answers what sums up a router's LSPs of the level.
func (n *Net) Entries(router, level int) ([]api.Entry, api.Errno) {
	d, e := n.at(router)
	return d.Entries(level), e
}

// LSP answers the bytes of a router's LSP of the level.
func (n *Net) LSP(router, level int, id api.LSPID) ([]byte, api.Errno) {
	d, e := n.at(router)
	b, f := d.LSP(level, id)
	return b, least(e, f)
}

// Peer answers with which router and circuit a cable joins a circuit, and whether it is up.
func (n *Net) Peer(router, circuit int) (int, int, bool, api.Errno) {
	switch {
	case n.lacksCircuit(router, circuit):
		return 0, 0, false, api.ErrArg
	case n == nil:
		return 0, 0, false, api.ErrNone
	}
	to, up := n.across(end{router, circuit})
	return to.router, to.circuit, up, api.OK
}

// Agrees tells whether neighbours hold the same at the level.
func (n *Net) Agrees(level int) (bool, api.Errno) {
	switch {
	case level != api.L1 && level != api.L2:
		return false, api.ErrArg
	case n == nil:
		return false, api.ErrNone
	}
	for _, c := range n.cables {
		a, b := c.ends[0], c.ends[1]
		if c.up && n.isUpAt(a, level) && n.isUpAt(b, level) && !slices.Equal(n.words(a, level), n.words(b, level)) {
			return false, api.OK
		}
	}
	return true, api.OK
}

// isUpAt tells whether the adjacency at an end of a cable is Up and has the level.
func (n *Net) isUpAt(x end, level int) bool {
	a, _ := n.routers[x.router].Adjacency(x.circuit)
	return a.State == api.Up && a.Level&level != 0
}

// words answers what the router at an end holds of the level: what is over aside, and however long it lasts.
func (n *Net) words(x end, level int) []api.Entry {
	list := n.routers[x.router].Entries(level)
	list = slices.DeleteFunc(list, func(entry api.Entry) bool { return entry.Life == 0 })
	for i := range list {
		list[i].Life = 0
	}
	return list
}

// Count answers how many routers there are.
func (n *Net) Count() int {
	if n == nil {
		return 0
	}
	return len(n.routers)
}
