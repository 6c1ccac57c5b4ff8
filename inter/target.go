package inter

import (
	"slices"

	"waymark/api"
	"waymark/octet"
	"waymark/prefix"
	"waymark/spf"
)

// target is a router to which a path leads, with the LSPs that it tells.
type target struct {
	spf.Path
	told []api.LSP
}

// targets answers the routers that root reaches, in the order of their names.
func targets(root api.SysID, t int, list []api.LSP, near []Near) ([]target, api.Errno) {
	paths, e := spf.Run(root, t, list)
	switch {
	case e != api.ErrArg && len(near) > mostNears:
		return nil, api.ErrLong
	case e != api.OK:
		return nil, e
	}
	told := map[api.SysID][]api.LSP{}
	for _, l := range list {
		if n := l.ID.Node; l.Life != 0 && n.Pseudo == 0 {
			told[n.Sys] = append(told[n.Sys], l)
		}
	}
	var found []target
	for _, p := range paths {
		found = append(found, target{Path: p, told: told[p.To]})
	}
	return found, api.OK
}

// checkReach answers ErrForm, if an LSP tells a prefix of the topology t that may not stand there, be its node reached or not.
func checkReach(list []api.LSP, t int) api.Errno {
	for _, l := range list {
		if l.Life == 0 {
			continue
		}
		for _, thing := range l.Reach[t] {
			if thing.Prefix.Fam != families[t] || prefix.Check(thing.Prefix) != api.OK {
				return api.ErrForm
			}
		}
	}
	return api.OK
}

// routes answers the routes over hops to what r tells; they share the hops.
func (r target) routes(level, t int, hops []api.Hop) []api.Route {
	if len(hops) == 0 {
		return nil
	}
	var list []api.Route
	for _, l := range r.told {
		for _, thing := range l.Reach[t] {
			metric := octet.Plus(r.Metric, thing.Metric)
			if metric < api.MaxPath {
				list = append(list, api.Route{Prefix: thing.Prefix, Kind: kind(level, thing.Down), Metric: metric, Hops: hops})
			}
		}
	}
	return list
}

// kind answers the Kind of a route of a level to what is told as down, or not.
func kind(level int, down bool) int {
	switch {
	case level == api.L2:
		return api.RouteL2
	case down:
		return api.RouteDown
	}
	return api.RouteL1
}

// isAttached tells whether r says that it is attached to level 2 in the topology t.
func (r target) isAttached(t int) bool {
	return slices.ContainsFunc(r.told, func(l api.LSP) bool {
		return l.ID.Frag == 0 && l.Attached[t]
	})
}

// hasOtherThan tells whether r tells an area that isn't known.
func (r target) hasOtherThan(known map[string]struct{}) bool {
	for _, l := range r.told {
		for _, area := range l.Areas {
			if _, ok := known[string(area)]; !ok {
				return true
			}
		}
	}
	return false
}
