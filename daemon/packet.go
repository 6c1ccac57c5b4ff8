package daemon

import (
	"bytes"
	"slices"

	"waymark/adj"
	"waymark/api"
	"waymark/lsp"
	"waymark/mac"
	"waymark/pdu"
	"waymark/tlv"
)

// The kinds of packets. Where two stand in a line, they are of level 1 and of level 2.
const (
	helloKind            = 17
	state1, state2       = 18, 20
	complete1, complete2 = 24, 25
	partial1, partial2   = 26, 27
)

// The types of TLVs.
const (
	areasType   = 1
	entriesType = 9
	seenType    = 240 // what this side of a circuit sees of the other
)

// Where things stand in a TLV that tells what is seen.
const (
	numberSize = 4
	theirPlace = 1 + numberSize
	therePlace = theirPlace + 6
	plainSize  = theirPlace
	namedSize  = therePlace + numberSize
)

// How many entries stand in a TLV, and in a packet.
const (
	perValue  = 15
	perPacket = 60
)

// own is the flood's circuit of an LSP that has come over none; newer is how it stands to what was held.
const (
	own   = -1
	newer = 1
)

// seal answers the bytes of p, signed with the first key, if there is one. What a router makes itself can be written.
func (d *Daemon) seal(p pdu.PDU) []byte {
	var b []byte
	if len(d.conf.Keys) == 0 {
		b, _ = pdu.Write(p)
	} else {
		b, _ = mac.Seal(p, d.conf.Keys[0])
	}
	return b
}

// hello answers what is told over the circuit c to the other side.
func (d *Daemon) hello(c int) []byte {
	h, _ := adj.Tell(d.local(c), d.circuits[c].Adjacency, api.HoldTime)
	return d.seal(pdu.PDU{
		Kind:    helloKind,
		Circuit: byte(h.Level),
		Source:  api.Node{Sys: h.Sys},
		Hold:    h.Hold,
		Number:  h.Number,
		TLVs:    append(putAreas(h.Areas), api.TLV{Type: seenType, Value: putSeen(h)}),
	})
}

// putAreas answers what tells the areas: it stands in a hello as in an LSP.
func putAreas(areas [][]byte) []api.TLV {
	p, _ := lsp.Make(api.LSP{Level: api.L1, Areas: areas})
	return p.TLVs
}

// putSeen answers the bytes of what h tells that its side sees.
func putSeen(h adj.Hello) []byte {
	value := slices.Concat([]byte{byte(h.State)}, putNumber(h.Number))
	if h.Named {
		value = slices.Concat(value, h.Their[:], putNumber(h.There))
	}
	return value
}

// putNumber answers the bytes of a circuit's number.
func putNumber(n byte) []byte {
	return []byte{0, 0, 0, n}
}

// getNumber answers the circuit's number of which p is the bytes; false: no circuit can have it.
func getNumber(p []byte) (byte, bool) {
	last := numberSize - 1
	return p[last], bytes.Equal(p[:last], make([]byte, last))
}

// readHello answers what the packet of a hello tells.
func readHello(p pdu.PDU) (adj.Hello, api.Errno) {
	areas, e := getAreas(p.TLVs)
	if e != api.OK {
		return adj.Hello{}, e
	}
	h := adj.Hello{
		Sys:    p.Source.Sys,
		Number: p.Number,
		Level:  int(p.Circuit),
		Hold:   p.Hold,
		Areas:  areas,
		State:  api.Down,
	}
	if !getFirstSeen(&h, tlv.Of(p.TLVs, seenType)) {
		return adj.Hello{}, api.ErrForm
	}
	return h, api.OK
}

// getAreas answers the areas that the TLVs tell.
func getAreas(list []api.TLV) ([][]byte, api.Errno) {
	areas := slices.DeleteFunc(slices.Clone(list), func(t api.TLV) bool { return t.Type != areasType })
	told, e := lsp.Read(pdu.PDU{Kind: state1, TLVs: areas})
	return told.Areas, e
}

// getFirstSeen sets what h tells that its side sees, by the first of the values, if there is one; false: one of them, be it the first or not, isn't of the form.
func getFirstSeen(h *adj.Hello, values [][]byte) bool {
	plain := *h
	for i, value := range values {
		told := plain
		if !getSeen(&told, value) {
			return false
		}
		if i == 0 {
			*h = told
		}
	}
	return true
}

// getSeen sets what h tells that its side sees; false: value isn't of the form.
func getSeen(h *adj.Hello, value []byte) bool {
	if len(value) != plainSize && len(value) != namedSize || value[0] > api.Down {
		return false
	}
	h.State = int(value[0])
	if len(value) == plainSize {
		return true
	}
	copy(h.Their[:], value[theirPlace:])
	there, ok := getNumber(value[therePlace:])
	h.Named, h.There = true, there
	return ok
}

// putEntries answers what tells the entries.
func putEntries(entries []api.Entry) []api.TLV {
	var list []api.TLV
	for some := range slices.Chunk(entries, perValue) {
		value, _ := pdu.PutEntries(some)
		list = append(list, api.TLV{Type: entriesType, Value: value})
	}
	return list
}

// getEntries answers the entries that the TLVs tell.
func getEntries(list []api.TLV) ([]api.Entry, api.Errno) {
	var all []api.Entry
	for _, value := range tlv.Of(list, entriesType) {
		entries, e := pdu.GetEntries(value)
		if e != api.OK {
			return nil, e
		}
		all = append(all, entries...)
	}
	return all, api.OK
}
