package daemon_test

import (
	"bytes"
	"cmp"
	"math"
	"slices"

	"waymark/api"
	"waymark/prefix"
)

// graph is what is up, and what the configurations say: the routes that it makes are found here without any packet.
type graph struct {
	confs  []api.Config
	cables []cable
}

// up answers the graph of what is up in a world.
func (w *world) up() graph {
	g := graph{confs: w.confs}
	for k, c := range w.cables {
		if !w.cut[k] {
			g.cables = append(g.cables, c)
		}
	}
	return g
}

// share tells whether two routers have an area in common.
func (g graph) share(a, b int) bool {
	return slices.ContainsFunc(g.confs[a].Areas, func(area []byte) bool { return hasBytes(g.confs[b].Areas, area) })
}

// levels answers those that a cable has at both of its ends.
func (g graph) levels(c cable) int {
	both := g.confs[c.a].Level & g.confs[c.a].Links[c.ca].Level & g.confs[c.b].Level & g.confs[c.b].Links[c.cb].Level
	if !g.share(c.a, c.b) {
		both &^= api.L1
	}
	return both
}

// circuits answers those of u over which v is, at a level, for a topology, with the least metric; and that.
func (g graph) circuits(u, v, level, t int) ([]int, int) {
	least, list := math.MaxInt, []int(nil)
	for _, c := range g.cables {
		for _, x := range []cable{c, {c.b, c.cb, c.a, c.ca}} {
			if x.a != u || x.b != v || g.levels(c)&level == 0 {
				continue
			}
			m := int(g.confs[u].Links[x.ca].Metric[t])
			switch {
			case m == 0 || m >= api.MaxLink || m > least:
			case m < least:
				least, list = m, []int{x.ca}
			default:
				list = append(list, x.ca)
			}
		}
	}
	slices.Sort(list)
	return list, least
}

// paths answers how far each router is from root, and the first routers on the way.
func (g graph) paths(root, level, t int) ([]int, [][]int) {
	far, first := make([]int, len(g.confs)), make([][]int, len(g.confs))
	done := make([]bool, len(g.confs))
	for i := range far {
		far[i] = math.MaxInt
	}
	far[root] = 0
	for {
		u := -1
		for i := range far {
			if !done[i] && far[i] < math.MaxInt && (u < 0 || far[i] < far[u]) {
				u = i
			}
		}
		if u < 0 {
			return far, first
		}
		done[u] = true
		if u != root && g.confs[u].Overload {
			continue
		}
		for v := range far {
			there, m := g.circuits(u, v, level, t)
			back, _ := g.circuits(v, u, level, t)
			if len(there) == 0 || len(back) == 0 || v == root || far[u]+m > far[v] {
				continue
			}
			if far[u]+m < far[v] {
				far[v], first[v] = far[u]+m, nil
			}
			by := first[u]
			if u == root {
				by = []int{v}
			}
			first[v] = append(first[v], by...)
			slices.Sort(first[v])
			first[v] = slices.Compact(first[v])
		}
	}
}

// hops answers the ways to first routers.
func (g graph) hops(root, level, t int, first []int) []api.Hop {
	var list []api.Hop
	for _, v := range first {
		over, _ := g.circuits(root, v, level, t)
		for _, c := range over {
			list = append(list, api.Hop{Circuit: c, To: sys(byte(v + 1))})
		}
	}
	slices.SortFunc(list, func(a, b api.Hop) int {
		return cmp.Or(cmp.Compare(a.Circuit, b.Circuit), bytes.Compare(a.To[:], b.To[:]))
	})
	return list
}

// better answers the better routes of each prefix, in order.
func better(lists ...[]api.Route) []api.Route {
	var all []api.Route
	for _, r := range slices.Concat(lists...) {
		i := slices.IndexFunc(all, func(x api.Route) bool { return x.Prefix == r.Prefix })
		if i < 0 {
			all = append(all, r)
			continue
		}
		switch order := cmp.Or(cmp.Compare(r.Kind, all[i].Kind), cmp.Compare(r.Metric, all[i].Metric)); {
		case order < 0:
			all[i] = r
		case order == 0:
			all[i].Hops = slices.Concat(all[i].Hops, r.Hops)
			slices.SortFunc(all[i].Hops, func(a, b api.Hop) int {
				return cmp.Or(cmp.Compare(a.Circuit, b.Circuit), bytes.Compare(a.To[:], b.To[:]))
			})
			all[i].Hops = slices.Compact(all[i].Hops)
		}
	}
	slices.SortFunc(all, func(a, b api.Route) int {
		order, _ := prefix.Cmp(a.Prefix, b.Prefix)
		return order
	})
	return all
}

// to answers root's routes of a level to what all the others tell.
func (g graph) to(root, level, t int, told [][]api.Reach) []api.Route {
	if g.confs[root].Level&level == 0 {
		return nil
	}
	far, first := g.paths(root, level, t)
	var list []api.Route
	for x, things := range told {
		if x == root || far[x] == math.MaxInt {
			continue
		}
		for _, r := range things {
			kind := api.RouteL1
			if level == api.L2 {
				kind = api.RouteL2
			} else if r.Down {
				kind = api.RouteDown
			}
			list = append(list, api.Route{Prefix: r.Prefix, Kind: kind, Metric: uint32(far[x]) + r.Metric, Hops: g.hops(root, level, t, first[x])})
		}
	}
	return better(list)
}

// owns answers what a router tells of its own prefixes at a level.
func (g graph) owns(i, level, t int) []api.Reach {
	var list []api.Reach
	for _, o := range g.confs[i].Owns {
		if int(o.Prefix.Fam) == 4+2*t && g.confs[i].Level&level != 0 && (o.Level&level != 0 || g.confs[i].Level == api.Both && level == api.L2) {
			list = append(list, api.Reach{Prefix: o.Prefix, Metric: o.Metric})
		}
	}
	return list
}

// more answers list with what of the routes is chosen, and has another prefix.
func more(list []api.Reach, routes []api.Route, down bool, chosen func(api.Route) bool) []api.Reach {
	for _, r := range routes {
		if chosen(r) && !slices.ContainsFunc(list, func(x api.Reach) bool { return x.Prefix == r.Prefix }) {
			list = append(list, api.Reach{Prefix: r.Prefix, Metric: r.Metric, Down: down})
		}
	}
	return list
}

// leaks tells whether a route goes from level 2 down to level 1 at the router i.
func (g graph) leaks(i int, r api.Route) bool {
	return r.Kind == api.RouteL2 && slices.ContainsFunc(g.confs[i].Leak, func(p api.Prefix) bool {
		is, _ := prefix.Covers(p, r.Prefix)
		return is
	})
}

// attached tells whether a router says at level 1 that other areas are reached over it.
func (g graph) attached(i, t int) bool {
	if g.confs[i].Level != api.Both || g.confs[i].Overload {
		return false
	}
	far, _ := g.paths(i, api.L2, t)
	for x := range g.confs {
		if x == i || far[x] == math.MaxInt {
			continue
		}
		if slices.ContainsFunc(g.confs[x].Areas, func(area []byte) bool { return !hasBytes(g.confs[i].Areas, area) }) {
			return true
		}
	}
	return false
}

// out answers the default route of a router, if there is one.
func (g graph) out(root, t int) []api.Route {
	if g.confs[root].Level&api.L1 == 0 || g.attached(root, t) {
		return nil
	}
	far, first := g.paths(root, api.L1, t)
	var list []api.Route
	for x := range g.confs {
		if x != root && far[x] < math.MaxInt && g.attached(x, t) {
			list = append(list, api.Route{Prefix: api.Prefix{Fam: byte(4 + 2*t)}, Kind: api.RouteDefault, Metric: uint32(far[x]), Hops: g.hops(root, api.L1, t, first[x])})
		}
	}
	return better(list)
}

// routes answers the routes of all routers for a topology: first what level 1 has by itself, then level 2, then what goes down.
func (g graph) routes(t int) [][]api.Route {
	count := len(g.confs)
	one, two, local := make([][]api.Reach, count), make([][]api.Reach, count), make([][]api.Route, count)
	inside, wide, all := make([][]api.Route, count), make([][]api.Route, count), make([][]api.Route, count)
	for i, c := range g.confs {
		one[i], two[i] = g.owns(i, api.L1, t), g.owns(i, api.L2, t)
		for _, o := range c.Owns {
			if int(o.Prefix.Fam) == 4+2*t {
				local[i] = append(local[i], api.Route{Prefix: o.Prefix, Kind: api.RouteLocal, Metric: o.Metric})
			}
		}
	}
	for i, c := range g.confs {
		inside[i] = g.to(i, api.L1, t, one)
		if c.Level == api.Both {
			two[i] = more(two[i], inside[i], false, func(api.Route) bool { return true })
		}
	}
	for i := range g.confs {
		wide[i] = g.to(i, api.L2, t, two)
	}
	for i, c := range g.confs {
		if c.Level == api.Both {
			one[i] = more(one[i], better(local[i], inside[i], wide[i]), true, func(r api.Route) bool { return g.leaks(i, r) })
		}
	}
	for i := range g.confs {
		all[i] = better(local[i], g.to(i, api.L1, t, one), wide[i], g.out(i, t))
	}
	return all
}
