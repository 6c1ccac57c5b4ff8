package inter

import (
	"cmp"
	"slices"

	"waymark/api"
	"waymark/prefix"
)

// merge answers the better route of each prefix, in order, with hops of its own; all prefixes are in form.
func merge(lists ...[]api.Route) []api.Route {
	to := func(r api.Route) api.Prefix { return r.Prefix }
	byWorth := func(a, b api.Route) int {
		return cmp.Or(cmp.Compare(a.Kind, b.Kind), cmp.Compare(a.Metric, b.Metric))
	}
	var merged []api.Route
	for _, equal := range best(slices.Concat(lists...), to, byWorth) {
		merged = append(merged, unite(equal))
	}
	slices.SortFunc(merged, func(a, b api.Route) int {
		order, _ := prefix.Cmp(a.Prefix, b.Prefix)
		return order
	})
	return merged
}

// unite makes one route of those that are equally good. One alone keeps its hops as they stand.
func unite(equal []api.Route) api.Route {
	one := equal[0]
	if len(equal) == 1 {
		one.Hops = append([]api.Hop(nil), one.Hops...)
		return one
	}
	var lists [][]api.Hop
	for _, r := range equal {
		lists = append(lists, r.Hops)
	}
	one.Hops = join(lists...)
	return one
}

// best answers by its keys the things than which none of the same key is better: of equally good ones all.
func best[K comparable, T any](things []T, key func(T) K, order func(a, b T) int) map[K][]T {
	found := map[K][]T{}
	for _, thing := range things {
		k := key(thing)
		held := found[k]
		switch {
		case len(held) == 0 || order(thing, held[0]) < 0:
			found[k] = []T{thing}
		case order(thing, held[0]) == 0:
			found[k] = append(held, thing)
		}
	}
	return found
}
