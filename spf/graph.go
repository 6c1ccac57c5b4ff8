package spf

import (
	"bytes"
	"slices"

	"waymark/api"
	"waymark/octet"
)

// node is one that is there: what it tells, and how it is reached.
type node struct {
	api.Node
	overload bool
	told     map[api.Node]uint32 // the least metrics that it tells for other nodes that are there
	links    []link              // over which walks go on from it
	metric   uint32              // MaxPath: it isn't reached
	hops     []api.SysID
}

// link is a way on from a node, and what it costs.
type link struct {
	to   *node
	cost uint32
}

// graph is nodes by what names them.
type graph map[api.Node]*node

// read answers the nodes that are there, with what they tell of the topology t.
func read(list []api.LSP, t int) graph {
	g := graph{}
	for _, l := range list {
		if l.ID.Frag == 0 {
			g[l.ID.Node] = &node{Node: l.ID.Node, overload: l.Overload, told: map[api.Node]uint32{}, metric: api.MaxPath}
		}
	}
	for _, l := range list {
		if n := g[l.ID.Node]; n != nil {
			g.tell(n, l.Edges[t])
		}
	}
	return g
}

// tell is told of edges that n tells.
func (g graph) tell(n *node, edges []api.Edge) {
	for _, edge := range edges {
		if edge.To == n.Node || edge.Metric >= api.MaxLink || g[edge.To] == nil {
			continue
		}
		least, known := n.told[edge.To]
		if !known || edge.Metric < least {
			n.told[edge.To] = edge.Metric
		}
	}
}

// link gives all nodes the links over which walks from start go on: from a node that is shut none does.
func (g graph) link(start *node) {
	for _, n := range g {
		if n == start || !n.isShut() {
			n.links = g.linksFrom(n, start)
		}
	}
}

// linksFrom answers the links from n; those to start are left out, for no walk comes back there.
func (g graph) linksFrom(n, start *node) []link {
	var list []link
	for id, metric := range n.told {
		to := g[id]
		if _, back := to.told[n.Node]; back && to != start {
			list = append(list, link{to: to, cost: n.cost(metric)})
		}
	}
	return list
}

// prune takes the links away over which no least walk goes.
func (g graph) prune() {
	for _, n := range g {
		n.links = slices.DeleteFunc(n.links, func(l link) bool {
			return !l.to.isReached() || octet.Plus(n.metric, l.cost) != l.to.metric
		})
	}
}

// routers answers the routers among the nodes, in the order of their names.
func (g graph) routers() []*node {
	var list []*node
	for _, n := range g {
		if n.isRouter() {
			list = append(list, n)
		}
	}
	slices.SortFunc(list, func(a, b *node) int {
		return bytes.Compare(a.Sys[:], b.Sys[:])
	})
	return list
}

// isRouter tells whether n is no pseudonode.
func (n *node) isRouter() bool {
	return n.Pseudo == 0
}

// isShut tells whether walks end at n, unless they begin there.
func (n *node) isShut() bool {
	return n.isRouter() && n.overload
}

// cost answers what a link costs for which n tells that metric: the way off a LAN costs nothing.
func (n *node) cost(metric uint32) uint32 {
	if n.isRouter() {
		return metric
	}
	return 0
}

// isReached tells whether a walk to n was found that isn't too long.
func (n *node) isReached() bool {
	return n.metric < api.MaxPath
}
