package net

import (
	"waymark/api"
	"waymark/daemon"
	"waymark/keep"
)

// Event is what happens.
type Event struct {
	Kind  byte
	N     int
	Fates []Fate
	Conf  api.Config
}

// The kinds of events.
const (
	Tick      = 1
	Cut       = 2
	Mend      = 3
	Restart   = 4
	Configure = 5
)

// Fate is what becomes of a packet.
type Fate struct {
	How byte
	At  int
	By  byte
}

// How a packet fares, by the rest that How leaves.
const (
	comes = iota
	isLost
	comesTwice
	isHeld
	isTurned
	ways // so many there are
)

// Do makes an event happen.
func (n *Net) Do(e Event) api.Errno {
	if f := n.refuses(e); f != api.OK {
		return f
	}
	switch e.Kind {
	case Tick:
		n.tick(e.Fates)
	case Cut:
		return n.join(e.N, false)
	case Mend:
		return n.join(e.N, true)
	case Restart:
		n.restart(e.N)
	case Configure:
		return n.configure(e.N, e.Conf)
	}
	return api.OK
}

// refuses answers the least error that e has, however things stand.
func (n *Net) refuses(e Event) api.Errno {
	var found []api.Errno
	if n.isOutside(e) {
		found = append(found, api.ErrArg)
	}
	if len(e.Fates) > api.MaxEvents {
		found = append(found, api.ErrLong)
	}
	if n == nil {
		found = append(found, api.ErrNone)
	}
	if e.Kind == Configure {
		// The router asks this as well, but not ahead of there being too many fates.
		found = append(found, daemon.Check(e.Conf))
	}
	return least(found...)
}

// isOutside tells whether e is of no kind, or of a cable or a router that there is not.
func (n *Net) isOutside(e Event) bool {
	switch e.Kind {
	case Tick:
		return false
	case Cut, Mend:
		return n.lacksCable(e.N)
	case Restart, Configure:
		return n.lacks(e.N)
	}
	return true
}

// tick lets one tick go by; fates tell what becomes of the packets.
func (n *Net) tick(fates []Fate) {
	crossing := n.late
	n.late = nil
	for i, r := range n.routers {
		for _, p := range r.Tick() {
			crossing = append(crossing, packet{from: end{i, p.Circuit}, bytes: p.Bytes})
		}
	}
	for i, p := range crossing {
		var f Fate
		if i < len(fates) {
			f = fates[i]
		}
		n.cross(p, f)
	}
}

// cross makes of a packet what its fate is.
func (n *Net) cross(p packet, f Fate) {
	to, up := n.across(p.from)
	if !up {
		return
	}
	switch f.How % ways {
	case isHeld:
		n.late = append(n.late, p)
	case isTurned:
		turn(p.bytes, f)
	}
	for range f.times() {
		n.routers[to.router].Receive(to.circuit, p.bytes)
	}
}

// times answers how often a packet comes at this tick.
func (f Fate) times() int {
	switch f.How % ways {
	case isLost, isHeld:
		return 0
	case comesTwice:
		return 2
	}
	return 1
}

// turn turns one of the bytes.
func turn(b []byte, f Fate) {
	b[max(f.At, 0)%len(b)] ^= f.By
}

// join makes a cable be up, or not.
func (n *Net) join(k int, up bool) api.Errno {
	c := &n.cables[k]
	if c.up == up {
		return api.ErrState
	}
	c.up = up
	for _, x := range c.ends {
		n.routers[x.router].Link(x.circuit, up)
	}
	return api.OK
}

// restart makes a router anew.
func (n *Net) restart(i int) {
	r := &n.routers[i]
	r.Daemon, _ = daemon.New(r.conf) // which was asked about when it came
	for c := range r.conf.Links {
		if _, up := n.across(end{i, c}); up {
			r.Link(c, true)
		}
	}
}

// configure gives a router another configuration.
func (n *Net) configure(i int, conf api.Config) api.Errno {
	r := &n.routers[i]
	e := r.Configure(conf)
	if e == api.OK {
		r.conf = keep.Config(conf)
	}
	return e
}
