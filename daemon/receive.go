package daemon

import (
	"waymark/adj"
	"waymark/api"
	"waymark/lsp"
	"waymark/mac"
	"waymark/pdu"
)

// Receive is told of bytes that have come over the circuit c.
func (d *Daemon) Receive(c int, b []byte) api.Errno {
	switch {
	case d.lacks(c):
		return api.ErrArg
	case d == nil:
		return api.ErrNone
	case !d.isUsed(c):
		return api.ErrState
	}
	p, e := mac.Open(b, d.conf.Keys)
	if e != api.OK {
		return e
	}
	if p.Kind == helloKind {
		return d.greet(c, p)
	}
	lv := d.find(levelOf(p.Kind))
	switch {
	case lv == nil || !d.isOpen(c, lv):
		return api.ErrState
	case p.Kind == state1 || p.Kind == state2:
		return d.take(c, lv, p, b)
	}
	return lv.hear(c, p)
}

// levelOf answers the level to which a packet of that kind belongs; 0: to none that counts here.
func levelOf(kind byte) int {
	switch kind {
	case state1, complete1, partial1:
		return api.L1
	case state2, complete2, partial2:
		return api.L2
	}
	return 0
}

// greet is told of a hello.
func (d *Daemon) greet(c int, p pdu.PDU) api.Errno {
	h, e := readHello(p)
	if e != api.OK {
		return e
	}
	// Of some errors the adjacency goes down: it is what is answered, whatever else is.
	a, e := adj.Step(d.local(c), d.circuits[c].Adjacency, h, d.now)
	d.become(c, a)
	return e
}

// take is told of an LSP, of which b is the bytes.
func (d *Daemon) take(c int, lv *level, p pdu.PDU, b []byte) api.Errno {
	if _, e := lsp.Read(p); e != api.OK {
		return e
	}
	rel, e := lv.Put(b)
	if e != api.OK {
		return e
	}
	if rel == newer {
		d.changed = true
	}
	return lv.Took(c, p.ID, rel)
}

// hear is told of what the other side of the circuit c sums up.
func (lv *level) hear(c int, p pdu.PDU) api.Errno {
	entries, e := getEntries(p.TLVs)
	if e != api.OK {
		return e
	}
	for _, entry := range entries {
		rel, e := lv.Compare(entry)
		switch {
		case e == api.OK:
			lv.Heard(c, entry.ID, rel)
		case entry.Seq > 0 && entry.Life > 0: // of what is over nobody needs to hear
			lv.Heard(c, entry.ID, newer)
		}
	}
	if p.Kind == complete1 || p.Kind == complete2 {
		lv.Missing(c, lv.lacking(p.Start, p.End, entries))
	}
	return api.OK
}

// lacking answers the IDs of what is held from from to to, purges aside, and isn't among the entries.
func (lv *level) lacking(from, to api.LSPID, entries []api.Entry) []api.LSPID {
	summed := map[api.LSPID]struct{}{}
	for _, entry := range entries {
		summed[entry.ID] = struct{}{}
	}
	var ids []api.LSPID
	for _, held := range lv.List(from, to) {
		if _, known := summed[held.ID]; !known && held.Life != 0 {
			ids = append(ids, held.ID)
		}
	}
	return ids
}
