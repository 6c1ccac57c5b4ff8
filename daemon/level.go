package daemon

import (
	"waymark/api"
	"waymark/flood"
	"waymark/lsp"
	"waymark/pdu"
	"waymark/store"
)

// level is what a router has of one of its levels.
type level struct {
	*store.Store
	*flood.Flood
	number  int
	mute    int64                 // till then nothing is told
	refused bool                  // what was told last: has the store refused an LSP?
	fresh   [api.MaxCircuits]bool // over these nothing was summed up since they were opened
	routes  [2][]api.Route
}

// newLevel answers a level that holds nothing.
func newLevel(number int) *level {
	f, _ := flood.New(api.MaxCircuits) // so many there may be
	return &level{Store: store.New(), Flood: f, number: number}
}

// kind answers the one of two kinds of packets that is the level's.
func (lv *level) kind(of1, of2 byte) byte {
	if lv.number == api.L1 {
		return of1
	}
	return of2
}

// lastID answers the ID behind which none stands.
func lastID() api.LSPID {
	return api.LSPID{
		Node: api.Node{Sys: api.SysID{0xff, 0xff, 0xff, 0xff, 0xff, 0xff}, Pseudo: 0xff},
		Frag: 0xff,
	}
}

// all answers the entries of all LSPs, in order.
func (lv *level) all() []api.Entry {
	return lv.List(api.LSPID{}, lastID())
}

// of answers the entries of the LSPs of the router sys, its pseudonodes' aside.
func (lv *level) of(sys api.SysID) []api.Entry {
	n := api.Node{Sys: sys}
	return lv.List(api.LSPID{Node: n}, api.LSPID{Node: n, Frag: 0xff})
}

// ids answers the IDs of all LSPs, in order.
func (lv *level) ids() []api.LSPID {
	var list []api.LSPID
	for _, entry := range lv.all() {
		list = append(list, entry.ID)
	}
	return list
}

// read answers what the LSPs of these entries tell.
func (lv *level) read(entries []api.Entry) []api.LSP {
	var list []api.LSP
	for _, entry := range entries {
		l, _ := lsp.Read(lv.packet(entry.ID)) // it was read when it came
		list = append(list, l)
	}
	return list
}

// packet answers the LSP id, which is held, as a packet.
func (lv *level) packet(id api.LSPID) pdu.PDU {
	b, _, _ := lv.Get(id)
	p, _ := pdu.Read(b)
	return p
}

// hold puts an LSP that the router itself has made into the store; what the store takes is flooded.
func (lv *level) hold(id api.LSPID, b []byte) {
	if rel, _ := lv.Put(b); rel == newer {
		lv.Took(own, id, newer)
	}
}

// grow lets one tick go by, and tells whether what is held has changed with it.
func (lv *level) grow() bool {
	held := lv.ids()
	ended, _ := lv.Age(1)
	for _, id := range ended {
		lv.Took(own, id, newer)
	}
	gone := lv.Len() < len(held)
	if gone {
		lv.forget(held)
	}
	return gone || len(ended) > 0
}

// forget makes the flood forget those of the IDs that are held no more.
func (lv *level) forget(ids []api.LSPID) {
	for _, id := range ids {
		if _, e := lv.Compare(api.Entry{ID: id}); e == api.ErrNone {
			lv.Forget(id)
		}
	}
}
