package walk

import (
	"waymark/api"
	"waymark/net"
)

// packet is one that is on its way through a net.
type packet struct {
	n    *net.Net
	fam  byte
	addr [16]byte
}

// start answers a packet to addr that is at the router from.
func start(n *net.Net, from int, fam byte, addr [16]byte) (packet, api.Errno) {
	_, _, e := n.Find(from, fam, addr) // it asks all that there is to ask, of a nil net too
	if e != api.OK {
		return packet{}, e
	}
	return packet{n, fam, addr}, api.OK
}

// routeAt answers by which hops the router i sends the packet on, or true: the packet is where it goes to.
func (p packet) routeAt(i int) ([]api.Hop, bool) {
	r, found, _ := p.n.Find(i, p.fam, p.addr)
	// Where no route is found its Kind is that of an own one, too.
	if found && r.Kind == api.RouteLocal {
		return nil, true
	}
	return r.Hops, false
}

// over answers the router to which a hop of the router i leads; false: it leads to none.
func (p packet) over(i int, h api.Hop) (int, bool) {
	next, _, up, _ := p.n.Peer(i, h.Circuit)
	return next, up
}
