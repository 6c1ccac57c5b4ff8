package daemon

import (
	"slices"

	"waymark/adj"
	"waymark/api"
	"waymark/pdu"
)

// Tick lets one tick go by, and answers what goes out.
func (d *Daemon) Tick() []Packet {
	if d == nil {
		return nil
	}
	d.now++
	for _, lv := range d.levels {
		if lv.grow() {
			d.changed = true
		}
	}
	for c := range d.circuits {
		d.become(c, adj.Expire(d.circuits[c].Adjacency, d.now))
	}
	if d.isStale() {
		d.settle()
	}
	var out []Packet
	for c := range d.circuits {
		for _, b := range d.says(c) {
			out = append(out, Packet{Circuit: c, Bytes: b})
		}
	}
	return out
}

// says answers what goes out over the circuit c.
func (d *Daemon) says(c int) [][]byte {
	if !d.isUsed(c) {
		return nil
	}
	var list [][]byte
	if d.now%api.HelloEvery == 0 {
		list = append(list, d.hello(c))
	}
	for _, lv := range d.levels {
		if d.isOpen(c, lv) {
			list = slices.Concat(list, d.complete(c, lv), lv.due(c), d.partial(c, lv))
		}
	}
	return list
}

// complete answers what sums up the whole store for the other side of the circuit c, if it is time for that.
func (d *Daemon) complete(c int, lv *level) [][]byte {
	if !lv.fresh[c] && d.now%api.SumEvery != 0 {
		return nil
	}
	lv.fresh[c] = false
	packets := slices.Collect(slices.Chunk(lv.all(), perPacket))
	if len(packets) == 0 {
		packets = [][]api.Entry{nil} // that there is nothing is told, too
	}
	var list [][]byte
	for i, entries := range packets {
		p := pdu.PDU{
			Kind:   lv.kind(complete1, complete2),
			Source: api.Node{Sys: d.conf.Sys},
			End:    lastID(),
			TLVs:   putEntries(entries),
		}
		if i > 0 {
			p.Start = entries[0].ID
		}
		if i < len(packets)-1 {
			p.End = entries[len(entries)-1].ID
		}
		list = append(list, d.seal(p))
	}
	return list
}

// due answers the LSPs that are to send over the circuit c.
func (lv *level) due(c int) [][]byte {
	ids, _ := lv.Sends(c)
	var list [][]byte
	for _, id := range ids {
		if b, _, e := lv.Get(id); e == api.OK {
			list = append(list, b)
		}
	}
	return list
}

// partial answers what sums up for the other side of the circuit c what it is to hear of.
func (d *Daemon) partial(c int, lv *level) [][]byte {
	ids, _ := lv.Sums(c)
	var all []api.Entry
	for _, id := range ids {
		all = append(all, lv.entry(id))
	}
	var list [][]byte
	for entries := range slices.Chunk(all, perPacket) {
		list = append(list, d.seal(pdu.PDU{
			Kind:   lv.kind(partial1, partial2),
			Source: api.Node{Sys: d.conf.Sys},
			TLVs:   putEntries(entries),
		}))
	}
	return list
}

// entry answers what sums up the LSP id; of one that isn't held a number that is less than any.
func (lv *level) entry(id api.LSPID) api.Entry {
	_, entry, e := lv.Get(id)
	if e != api.OK {
		return api.Entry{ID: id}
	}
	return entry
}
