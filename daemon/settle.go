package daemon

import (
	"slices"

	"waymark/api"
	"waymark/inter"
	"waymark/lsp"
	"waymark/origin"
	"waymark/pdu"
	"waymark/rib"
)

// passes is how often all is done: by the first one's routes the second one tells.
const passes = 2

// settle makes what is told, and the routes, be as what is known asks for.
func (d *Daemon) settle() {
	for range passes {
		for _, lv := range d.levels {
			d.tell(lv)
		}
		d.route()
	}
	d.changed = false
}

// isStale tells whether something has changed since it was settled last.
func (d *Daemon) isStale() bool {
	return d.changed || slices.ContainsFunc(d.levels, func(lv *level) bool {
		return lv.mute == d.now || lv.refused != lv.Refused() || lv.isDue(d.conf.Sys)
	})
}

// isDue tells whether an own LSP must be told anew, for it comes to its end.
func (lv *level) isDue(sys api.SysID) bool {
	return slices.ContainsFunc(lv.of(sys), func(entry api.Entry) bool {
		return entry.Life > 0 && isOld(entry)
	})
}

// isOld tells whether an own LSP of that entry must be told anew, whatever is in it.
func isOld(entry api.Entry) bool {
	return entry.Life <= api.MaxAge-api.Refresh
}

// tell makes the level's store hold what the router tells there, and nothing else of it.
func (d *Daemon) tell(lv *level) {
	lv.refused = lv.Refused()
	var want []api.LSP
	if d.now >= lv.mute {
		want, _ = origin.Build(d.word(lv))
	}
	have := d.told(lv)
	anew, gone, e := origin.Plan(have, want)
	if e == api.ErrEnd {
		lv.mute = d.now + api.MaxAge + api.ZeroAge
		anew, gone, _ = origin.Plan(have, nil)
	}
	for _, l := range anew {
		p, _ := lsp.Make(l)
		lv.hold(l.ID, d.seal(p))
	}
	for _, id := range gone {
		lv.purge(id)
	}
}

// told answers the router's own LSPs as the store holds them; those that are old are unlike any that is wanted.
func (d *Daemon) told(lv *level) []api.LSP {
	entries := lv.of(d.conf.Sys)
	list := lv.read(entries)
	for i, entry := range entries {
		if isOld(entry) {
			list[i].Level = 0
		}
	}
	return list
}

// purge makes an own LSP be held, and flooded, as one that has come to its end.
func (lv *level) purge(id api.LSPID) {
	p := lv.packet(id)
	if p.Life == 0 {
		return
	}
	p.Life = 0
	b, _ := pdu.Write(p) // a signature is right still: the Life isn't under it
	lv.hold(id, b)
}

// word answers what the router tells at the level.
func (d *Daemon) word(lv *level) origin.Own {
	o := origin.Own{
		Level:    lv.number,
		Node:     api.Node{Sys: d.conf.Sys},
		Areas:    d.conf.Areas,
		Host:     d.conf.Host,
		Overload: d.conf.Overload || lv.Refused(),
	}
	if lv.number == api.L1 && !o.Overload {
		o.Attached = d.attached()
	}
	for t := range o.Edges {
		o.Edges[t] = d.edges(lv, t)
		o.Reach[t] = d.reach(lv, t)
	}
	return o
}

// attached tells in which topologies level 2 leads to other areas.
func (d *Daemon) attached() [2]bool {
	var is [2]bool
	if !d.hasBoth() {
		return is
	}
	lv := d.find(api.L2)
	list := lv.read(lv.all())
	for t := range is {
		is[t], _ = inter.Attached(d.conf.Sys, t, list, d.conf.Areas)
	}
	return is
}

// edges answers the edges to the neighbours at the level, in the order of the circuits.
func (d *Daemon) edges(lv *level, t int) []api.Edge {
	var list []api.Edge
	for _, n := range d.near(lv) {
		if n.Metric[t] != 0 {
			list = append(list, api.Edge{To: api.Node{Sys: n.To}, Metric: n.Metric[t]})
		}
	}
	return list
}

// near answers the circuits that are open at the level, with the neighbours over them.
func (d *Daemon) near(lv *level) []inter.Near {
	var list []inter.Near
	for c := range d.circuits {
		if d.isOpen(c, lv) {
			list = append(list, inter.Near{Circuit: c, To: d.circuits[c].Peer, Metric: d.conf.Links[c].Metric})
		}
	}
	return list
}

// reach answers the prefixes that are told at the level, each once.
func (d *Daemon) reach(lv *level, t int) []api.Reach {
	var list []api.Reach
	for _, o := range d.conf.Owns {
		// Who has both tells at level 2 what level 1 has, be it its own.
		told := o.Level&lv.number != 0 || d.hasBoth() && lv.number == api.L2
		if told && o.Prefix.Fam == families[t] {
			list = append(list, api.Reach{Prefix: o.Prefix, Metric: o.Metric})
		}
	}
	return firsts(slices.Concat(list, d.passed(lv, t)))
}

// passed answers what is told at the level of the routes of the other one.
func (d *Daemon) passed(lv *level, t int) []api.Reach {
	if !d.hasBoth() {
		return nil
	}
	var list []api.Reach
	if lv.number == api.L2 {
		list, _ = inter.Up(d.find(api.L1).routes[t])
	} else {
		list, _ = inter.Down(d.tables[t].List(), d.conf.Leak)
	}
	return list
}

// firsts answers of each prefix what stands first of it.
func firsts(list []api.Reach) []api.Reach {
	var kept []api.Reach
	known := map[api.Prefix]struct{}{}
	for _, told := range list {
		if _, again := known[told.Prefix]; !again {
			known[told.Prefix] = struct{}{}
			kept = append(kept, told)
		}
	}
	return kept
}

// route makes the routes be those that the levels' LSPs make.
func (d *Daemon) route() {
	var lists [2][][]api.Route
	for _, lv := range d.levels {
		list, near := lv.read(lv.all()), d.near(lv)
		for t := range lists {
			lv.routes[t], _ = inter.Routes(d.conf.Sys, lv.number, t, list, near)
			lists[t] = append(lists[t], lv.routes[t])
			if lv.number != api.L1 || d.tellsAttached(list, t) {
				continue
			}
			if out, ok, _ := inter.Default(d.conf.Sys, t, list, near); ok {
				lists[t] = append(lists[t], []api.Route{out})
			}
		}
	}
	for t := range lists {
		merged, _ := inter.Merge(append(lists[t], d.locals(t))...)
		d.tables[t], _ = rib.Build(merged)
	}
}

// locals answers the routes to the router's own prefixes.
func (d *Daemon) locals(t int) []api.Route {
	var list []api.Route
	for _, o := range d.conf.Owns {
		if o.Prefix.Fam == families[t] {
			list = append(list, api.Route{Prefix: o.Prefix, Kind: api.RouteLocal, Metric: o.Metric})
		}
	}
	return list
}

// tellsAttached tells whether the router says in its fragment 0, which is in the list, that level 2 leads on from it.
func (d *Daemon) tellsAttached(list []api.LSP, t int) bool {
	return slices.ContainsFunc(list, func(l api.LSP) bool {
		return l.ID == api.LSPID{Node: api.Node{Sys: d.conf.Sys}} && l.Attached[t]
	})
}
