package daemon

import (
	"waymark/adj"
	"waymark/api"
)

// circuit is one of the router's.
type circuit struct {
	linked bool
	adj.Adjacency
}

// down answers the adjacency that there isn't.
func down() adj.Adjacency {
	return adj.Adjacency{State: api.Down}
}

// isUpAt tells whether the adjacency is Up and has that level.
func isUpAt(a adj.Adjacency, level int) bool {
	return a.State == api.Up && a.Level&level != 0
}

// become makes the adjacency over the circuit c be a; in the floods the circuit is opened and closed as that asks for.
func (d *Daemon) become(c int, a adj.Adjacency) {
	was := d.circuits[c].Adjacency
	d.circuits[c].Adjacency = a
	was.Until = a.Until
	if a == was {
		return // at most it holds for longer
	}
	d.changed = true
	for _, lv := range d.levels {
		if isUpAt(was, lv.number) {
			lv.Close(c)
		}
		if isUpAt(a, lv.number) {
			lv.Open(c, d.conf.Links[c].Mesh, lv.ids())
			lv.fresh[c] = true
		}
	}
}

// isOpen tells whether the circuit c is open in the level's flood: who isn't linked has no adjacency.
func (d *Daemon) isOpen(c int, lv *level) bool {
	return isUpAt(d.circuits[c].Adjacency, lv.number)
}

// levelsOf answers the levels of the circuit c; 0: it is not used.
func (d *Daemon) levelsOf(c int) int {
	return d.conf.Links[c].Level & d.conf.Level
}

// isUsed tells whether packets come and go over the circuit c.
func (d *Daemon) isUsed(c int) bool {
	return d.circuits[c].linked && d.levelsOf(c) != 0
}

// local answers this side of the circuit c.
func (d *Daemon) local(c int) adj.Local {
	return adj.Local{
		Sys:    d.conf.Sys,
		Number: byte(c),
		Level:  d.levelsOf(c),
		Areas:  d.conf.Areas,
	}
}
