package inter

import (
	"bytes"
	"cmp"
	"maps"
	"slices"

	"waymark/api"
)

// ways are the hops to neighbours, by their names.
type ways map[api.SysID][]api.Hop

// nearest answers the hops over the circuits with the least metrics, neighbour by neighbour.
func nearest(near []Near, t int) ways {
	var used []Near
	for _, n := range near {
		if n.Metric[t] > 0 && n.Metric[t] < api.MaxLink {
			used = append(used, n)
		}
	}
	name := func(n Near) api.SysID { return n.To }
	byMetric := func(a, b Near) int { return cmp.Compare(a.Metric[t], b.Metric[t]) }
	over := ways{}
	for to, list := range best(used, name, byMetric) {
		for _, n := range list {
			over[to] = append(over[to], api.Hop{Circuit: n.Circuit, To: to})
		}
	}
	return over
}

// to answers the hops to some routers.
func (w ways) to(routers []api.SysID) []api.Hop {
	var lists [][]api.Hop
	for _, id := range routers {
		lists = append(lists, w[id])
	}
	return join(lists...)
}

// join answers the hops of all lists in order, each once.
func join(lists ...[]api.Hop) []api.Hop {
	all := map[api.Hop]struct{}{}
	for _, list := range lists {
		for _, h := range list {
			all[h] = struct{}{}
		}
	}
	return slices.SortedFunc(maps.Keys(all), func(a, b api.Hop) int {
		return cmp.Or(cmp.Compare(a.Circuit, b.Circuit), bytes.Compare(a.To[:], b.To[:]))
	})
}
