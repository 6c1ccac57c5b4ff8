package daemon_test

import (
	"bytes"
	"reflect"
	"slices"
	"testing"

	"waymark/adj"
	"waymark/api"
	"waymark/daemon"
	"waymark/lsp"
	"waymark/mac"
	"waymark/pdu"
	"waymark/prefix"
)

// kinds of packets.
const (
	helloKind = 17
	csnp1     = 24
	csnp2     = 25
	psnp1     = 26
	psnp2     = 27
)

var (
	area1 = []byte{0x49, 1}
	area2 = []byte{0x49, 2}
)

// sys answers the name of the router n.
func sys(n byte) api.SysID {
	return api.SysID{5: n}
}

// id answers what names a fragment of the router n.
func id(n, frag byte) api.LSPID {
	return api.LSPID{Node: api.Node{Sys: sys(n)}, Frag: frag}
}

var lastID = api.LSPID{Node: api.Node{Sys: api.SysID{255, 255, 255, 255, 255, 255}, Pseudo: 255}, Frag: 255}

// net answers the prefix of a text.
func net(text string) api.Prefix {
	p, e := prefix.Parse(text)
	if e != api.OK {
		panic(text)
	}
	return p
}

// conf answers the configuration of a router of the name 1 with so many circuits.
func conf(level, circuits int) api.Config {
	c := api.Config{Sys: sys(1), Level: level, Areas: [][]byte{area1}, Host: "r1"}
	for i := range circuits {
		c.Links = append(c.Links, api.Link{Level: api.Both, Metric: [2]uint32{uint32(10 + i), uint32(20 + i)}})
	}
	return c
}

// make1 answers a router.
func make1(t *testing.T, c api.Config) *daemon.Daemon {
	t.Helper()
	d, e := daemon.New(c)
	if e != api.OK || d == nil {
		t.Fatalf("New = %v, %d", d, e)
	}
	return d
}

// write answers the bytes of a packet.
func write(t *testing.T, p pdu.PDU) []byte {
	t.Helper()
	b, e := pdu.Write(p)
	if e != api.OK {
		t.Fatalf("Write(%v): %d", p, e)
	}
	return b
}

// open answers the packet of bytes.
func open(t *testing.T, b []byte, keys ...api.Key) pdu.PDU {
	t.Helper()
	p, e := mac.Open(b, keys)
	if e != api.OK {
		t.Fatalf("Open(%x): %d", b, e)
	}
	return p
}

// seen answers the value of what a side sees: nobody.
func seen(state, number byte) []byte {
	return []byte{state, 0, 0, 0, number}
}

// seenOf answers the value of what a side sees of the circuit there of the router n.
func seenOf(state, number, n, there byte) []byte {
	return append(seen(state, number), 0, 0, 0, 0, 0, n, 0, 0, 0, there)
}

// hello answers what the router n tells over its circuit 7, with these TLVs.
func hello(n byte, level int, list ...api.TLV) pdu.PDU {
	return pdu.PDU{Kind: helloKind, Circuit: byte(level), Source: api.Node{Sys: sys(n)}, Hold: 65535, Number: 7, TLVs: list}
}

// greeting answers a hello of the router n by which an adjacency that was Down is Up: it is of both levels and of the area 1, and sees the circuit c of router 1.
func greeting(n byte, c int) pdu.PDU {
	return hello(n, api.Both, api.TLV{Type: 1, Value: []byte{2, 0x49, 1}}, api.TLV{Type: 240, Value: seenOf(api.Init, 7, 1, byte(c))})
}

// receive looks at what Receive answers.
func receive(t *testing.T, d *daemon.Daemon, c int, b []byte, e api.Errno) {
	t.Helper()
	if f := d.Receive(c, b); f != e {
		t.Fatalf("Receive(%d, %x) = %d; want %d", c, b, f, e)
	}
}

// meet makes the adjacency to the router n over the circuit c be Up.
func meet(t *testing.T, d *daemon.Daemon, c int, n byte) {
	t.Helper()
	link(t, d, c, true)
	receive(t, d, c, write(t, greeting(n, c)), api.OK)
	if a := adjacency(t, d, c); a.State != api.Up || a.Peer != sys(n) {
		t.Fatalf("the adjacency is %v", a)
	}
}

// link looks at what Link answers.
func link(t *testing.T, d *daemon.Daemon, c int, up bool) {
	t.Helper()
	if e := d.Link(c, up); e != api.OK {
		t.Fatalf("Link(%d, %t) = %d", c, up, e)
	}
}

// adjacency answers that over the circuit c.
func adjacency(t *testing.T, d *daemon.Daemon, c int) adj.Adjacency {
	t.Helper()
	a, e := d.Adjacency(c)
	if e != api.OK {
		t.Fatalf("Adjacency(%d): %d", c, e)
	}
	return a
}

// isDown looks at whether nobody is known over the circuit c.
func isDown(t *testing.T, d *daemon.Daemon, c int) {
	t.Helper()
	if a := adjacency(t, d, c); a != (adj.Adjacency{State: api.Down}) {
		t.Errorf("Adjacency(%d) = %v; want Down", c, a)
	}
}

// state answers an LSP's bytes.
func state(t *testing.T, l api.LSP) []byte {
	t.Helper()
	p, e := lsp.Make(l)
	if e != api.OK {
		t.Fatalf("Make(%v): %d", l, e)
	}
	return write(t, p)
}

// say answers an LSP of the router n, which tells edges to these others of the metric 10 in both topologies.
func say(level int, n byte, seq uint32, to ...byte) api.LSP {
	l := api.LSP{Level: level, ID: id(n, 0), Seq: seq, Life: api.MaxAge, Areas: [][]byte{area1}}
	for _, o := range to {
		edge := api.Edge{To: api.Node{Sys: sys(o)}, Metric: 10}
		l.Edges[0] = append(l.Edges[0], edge)
		l.Edges[1] = append(l.Edges[1], edge)
	}
	return l
}

// tells answers l with these prefixes of the metric 5, too.
func tells(l api.LSP, nets ...string) api.LSP {
	for _, text := range nets {
		p := net(text)
		t := int(p.Fam-4) / 2
		l.Reach[t] = append(l.Reach[t], api.Reach{Prefix: p, Metric: 5})
	}
	return l
}

// hears makes d receive LSPs over the circuit c.
func hears(t *testing.T, d *daemon.Daemon, c int, list ...api.LSP) {
	t.Helper()
	for _, l := range list {
		receive(t, d, c, state(t, l), api.OK)
	}
}

// tick answers what goes out, as packets.
func tick(t *testing.T, d *daemon.Daemon, keys ...api.Key) []pdu.PDU {
	t.Helper()
	var list []pdu.PDU
	for _, p := range d.Tick() {
		list = append(list, open(t, p.Bytes, keys...))
	}
	return list
}

// wait lets so many ticks go by.
func wait(d *daemon.Daemon, ticks int) {
	for range ticks {
		d.Tick()
	}
}

// ofKind answers the packets of that kind.
func ofKind(list []pdu.PDU, kind byte) []pdu.PDU {
	var some []pdu.PDU
	for _, p := range list {
		if p.Kind == kind {
			some = append(some, p)
		}
	}
	return some
}

// over answers what goes out over the circuit c.
func over(list []daemon.Packet, c int) [][]byte {
	var some [][]byte
	for _, p := range list {
		if p.Circuit == c {
			some = append(some, p.Bytes)
		}
	}
	return some
}

// held answers an LSP as d holds it.
func held(t *testing.T, d *daemon.Daemon, level int, is api.LSPID) api.LSP {
	t.Helper()
	b, e := d.LSP(level, is)
	if e != api.OK {
		t.Fatalf("LSP(%d, %v): %d", level, is, e)
	}
	l, e := lsp.Read(open(t, b))
	if e != api.OK {
		t.Fatalf("Read(%x): %d", b, e)
	}
	return l
}

// holdsAs looks at whether d holds the very LSP.
func holdsAs(t *testing.T, d *daemon.Daemon, want api.LSP) {
	t.Helper()
	if got := held(t, d, want.Level, want.ID); !same(got, want) {
		t.Errorf("it is held as %+v; want %+v", got, want)
	}
}

// same tells whether two things are the same, empty and nil lists too.
func same(a, b any) bool {
	return reflect.DeepEqual(plain(reflect.ValueOf(a)).Interface(), plain(reflect.ValueOf(b)).Interface())
}

// plain answers v with nil in place of empty lists.
func plain(v reflect.Value) reflect.Value {
	is := reflect.New(v.Type()).Elem()
	switch v.Kind() {
	case reflect.Slice:
		for i := range v.Len() {
			is = reflect.Append(is, plain(v.Index(i)))
		}
	case reflect.Array:
		for i := range v.Len() {
			is.Index(i).Set(plain(v.Index(i)))
		}
	case reflect.Struct:
		for i := range v.NumField() {
			is.Field(i).Set(plain(v.Field(i)))
		}
	default:
		return v
	}
	return is
}

// seqs answers the numbers of the LSPs of a level, by their IDs.
func seqs(d *daemon.Daemon, level int) map[api.LSPID]uint32 {
	found := map[api.LSPID]uint32{}
	for _, entry := range d.Entries(level) {
		found[entry.ID] = entry.Seq
	}
	return found
}

// routesAre looks at the merged routes of a topology.
func routesAre(t *testing.T, d *daemon.Daemon, topology int, want ...api.Route) {
	t.Helper()
	if got := d.Routes(topology); !same(got, want) {
		t.Errorf("Routes(%d) = %v; want %v", topology, got, want)
	}
}

// way answers a route.
func way(text string, kind int, metric uint32, hops ...api.Hop) api.Route {
	return api.Route{Prefix: net(text), Kind: kind, Metric: metric, Hops: hops}
}

// entriesOf answers the entries that packets tell.
func entriesOf(t *testing.T, p pdu.PDU) []api.Entry {
	t.Helper()
	var all []api.Entry
	for _, v := range p.TLVs {
		list, e := pdu.GetEntries(v.Value)
		if v.Type != 9 || e != api.OK {
			t.Fatalf("a TLV %v: %d", v, e)
		}
		all = append(all, list...)
	}
	return all
}

// sum answers a packet of a kind that sums up these entries.
func sum(t *testing.T, kind byte, entries ...api.Entry) pdu.PDU {
	t.Helper()
	p := pdu.PDU{Kind: kind, Source: api.Node{Sys: sys(2)}, End: lastID}
	for part := range slices.Chunk(entries, 15) {
		b, e := pdu.PutEntries(part)
		if e != api.OK {
			t.Fatal(e)
		}
		p.TLVs = append(p.TLVs, api.TLV{Type: 9, Value: b})
	}
	return p
}

// hasBytes tells whether one of the list is b.
func hasBytes(list [][]byte, b []byte) bool {
	return slices.ContainsFunc(list, func(p []byte) bool { return bytes.Equal(p, b) })
}
