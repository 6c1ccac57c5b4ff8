package net_test

import (
	"reflect"
	"slices"
	"testing"

	"waymark/api"
	"waymark/net"
)

// sys answers the name of the router at the place i.
func sys(i int) api.SysID {
	return api.SysID{5: byte(i + 1)}
}

// of answers the prefix of the router at the place i.
func of(i int) api.Prefix {
	return api.Prefix{Fam: 4, Len: 16, Addr: [16]byte{10, byte(i + 1)}}
}

// id answers what names a fragment of the router at the place i.
func id(i int, frag byte) api.LSPID {
	return api.LSPID{Node: api.Node{Sys: sys(i)}, Frag: frag}
}

// conf answers the configuration of the router at the place i, with a prefix and so many circuits of the metric 10.
func conf(i, level, circuits int) api.Config {
	c := api.Config{Sys: sys(i), Level: level, Areas: [][]byte{{0x49, 1}}}
	c.Owns = []api.Own{{Prefix: of(i), Metric: 1, Level: api.Both}}
	for range circuits {
		c.Links = append(c.Links, api.Link{Level: api.Both, Metric: [2]uint32{10, 10}})
	}
	return c
}

// row answers the configurations of routers in a row, and the cables between them.
func row(level, count int) ([]api.Config, []net.Cable) {
	var confs []api.Config
	var cables []net.Cable
	for i := range count {
		confs = append(confs, conf(i, level, 2))
		if i > 0 {
			cables = append(cables, net.Cable{A: i - 1, CA: 1, B: i, CB: 0})
		}
	}
	return confs, cables
}

// build answers a net.
func build(t *testing.T, confs []api.Config, cables []net.Cable) *net.Net {
	t.Helper()
	n, e := net.New(confs, cables)
	if e != api.OK || n == nil {
		t.Fatalf("New = %v, %d", n, e)
	}
	return n
}

// inARow answers a net of routers in a row.
func inARow(t *testing.T, level, count int) *net.Net {
	t.Helper()
	confs, cables := row(level, count)
	return build(t, confs, cables)
}

// does looks at what Do answers.
func does(t *testing.T, n *net.Net, e net.Event, want api.Errno) {
	t.Helper()
	if f := n.Do(e); f != want {
		t.Fatalf("Do(%v) = %d; want %d", e, f, want)
	}
}

// tick lets a tick go by in which packets have these fates.
func tick(t *testing.T, n *net.Net, fates ...net.Fate) {
	t.Helper()
	does(t, n, net.Event{Kind: net.Tick, Fates: fates}, api.OK)
}

// rest lets so many ticks without fates go by.
func rest(t *testing.T, n *net.Net, ticks int) {
	t.Helper()
	for range ticks {
		tick(t, n)
	}
}

// all answers so many fates of that How.
func all(how byte) []net.Fate {
	return slices.Repeat([]net.Fate{{How: how}}, 100)
}

// entries answers those of a router at a level.
func entries(t *testing.T, n *net.Net, i, level int) []api.Entry {
	t.Helper()
	list, e := n.Entries(i, level)
	if e != api.OK {
		t.Fatalf("Entries(%d, %d): %d", i, level, e)
	}
	return list
}

// routes answers those of a router for a topology.
func routes(t *testing.T, n *net.Net, i, topology int) []api.Route {
	t.Helper()
	list, e := n.Routes(i, topology)
	if e != api.OK {
		t.Fatalf("Routes(%d, %d): %d", i, topology, e)
	}
	return list
}

// holds looks at how many LSPs each router holds at a level.
func holds(t *testing.T, n *net.Net, level int, want ...int) {
	t.Helper()
	for i, count := range want {
		if list := entries(t, n, i, level); len(list) != count {
			t.Errorf("the router %d holds %v; want %d", i, list, count)
		}
	}
}

// knows looks at how many routes each router has for IPv4.
func knows(t *testing.T, n *net.Net, want ...int) {
	t.Helper()
	for i, count := range want {
		if list := routes(t, n, i, 0); len(list) != count {
			t.Errorf("the router %d has the routes %v; want %d", i, list, count)
		}
	}
}

// agrees looks at what Agrees answers for the two levels.
func agrees(t *testing.T, n *net.Net, want1, want2 bool) {
	t.Helper()
	for i, want := range []bool{want1, want2} {
		if ok, e := n.Agrees(i + 1); ok != want || e != api.OK {
			t.Errorf("Agrees(%d) = %t, %d; want %t", i+1, ok, e, want)
		}
	}
}

// same tells whether two things are the same, empty and nil lists too.
func same(a, b any) bool {
	return reflect.DeepEqual(plain(reflect.ValueOf(a)).Interface(), plain(reflect.ValueOf(b)).Interface())
}

// plain answers v with nil in place of empty lists.
func plain(v reflect.Value) reflect.Value {
	is := reflect.New(v.Type()).Elem()
	switch v.Kind() {
	case reflect.Slice:
		for i := range v.Len() {
			is = reflect.Append(is, plain(v.Index(i)))
		}
	case reflect.Struct:
		for i := range v.NumField() {
			is.Field(i).Set(plain(v.Field(i)))
		}
	default:
		return v
	}
	return is
}
