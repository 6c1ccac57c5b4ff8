package conf_test

import (
	"bytes"
	"fmt"
	"math"
	"reflect"
	"slices"
	"strings"
	"testing"

	"waymark/api"
	"waymark/conf"
	"waymark/net"
)

// one is the text of a router, to which lines can be added.
const one = "router 0000.0000.0001 2\narea 4901\n"

// lines answers the text of these lines.
func lines(list ...string) string {
	return strings.Join(list, "\n") + "\n"
}

// rich answers a net that has something of everything, and its text.
func rich() ([]api.Config, []net.Cable, string) {
	a := api.Config{
		Sys:      api.SysID{0, 1, 0x0c, 0x12, 0xab, 0x34},
		Level:    3,
		Areas:    [][]byte{{0x49, 0x01}, {0x00}, {0xff, 1, 2, 3, 4, 5, 6, 7, 8, 9, 0xa, 0xb, 0xc0}},
		Host:     "r1.a-z.09",
		Overload: true,
		Links: []api.Link{
			{Level: 3, Metric: [2]uint32{10, 0}, Mesh: -1},
			{Level: 1, Metric: [2]uint32{0, 16777215}, Mesh: 4294967295},
			{Level: 2, Metric: [2]uint32{1, 2}, Mesh: 7},
		},
		Owns: []api.Own{
			{Prefix: api.Prefix{Fam: 4, Len: 16, Addr: [16]byte{10, 1}}, Metric: 4294967295, Level: 3},
			{Prefix: api.Prefix{Fam: 6, Len: 32, Addr: [16]byte{0x20, 0x01, 0x0d, 0xb8}}, Metric: 0, Level: 1},
			{Prefix: api.Prefix{Fam: 4}, Metric: 1, Level: 2},
		},
		Leak: []api.Prefix{{Fam: 6}, {Fam: 4, Len: 32, Addr: [16]byte{192, 0, 2, 255}}},
		Keys: []api.Key{{ID: 65535, Secret: []byte{0, 0xfe}}, {ID: 0, Secret: []byte("k")}, {ID: 10, Secret: []byte{0x0a}}},
	}
	b := api.Config{Sys: api.SysID{5: 2}, Level: 1, Areas: [][]byte{{1}}}
	c := api.Config{Sys: api.SysID{5: 3}, Level: 2, Areas: [][]byte{{0x49}}, Host: "-", Links: make([]api.Link, 8)}
	for i := range c.Links {
		c.Links[i].Level = 2
	}
	cables := []net.Cable{{A: 0, CA: 2, B: 2, CB: 0}, {A: 2, CA: 7, B: 0, CB: 1}, {A: 2, CA: 3, B: 2, CB: 4}}
	return []api.Config{a, b, c}, cables, lines(
		"router 0001.0c12.ab34 3",
		"area 4901",
		"area 00",
		"area ff0102030405060708090a0bc0",
		"host r1.a-z.09",
		"overload",
		"link 3 10 0 -1",
		"link 1 0 16777215 4294967295",
		"link 2 1 2 7",
		"own 10.1.0.0/16 4294967295 3",
		"own 2001:db8::/32 0 1",
		"own 0.0.0.0/0 1 2",
		"leak ::/0",
		"leak 192.0.2.255/32",
		"key 65535 00fe",
		"key 0 6b",
		"key 10 0a",
		"router 0000.0000.0002 1",
		"area 01",
		"router 0000.0000.0003 2",
		"area 49",
		"host -",
		"link 2 0 0 0",
		"link 2 0 0 0",
		"link 2 0 0 0",
		"link 2 0 0 0",
		"link 2 0 0 0",
		"link 2 0 0 0",
		"link 2 0 0 0",
		"link 2 0 0 0",
		"cable 0 2 2 0",
		"cable 2 7 0 1",
		"cable 2 3 2 4",
	)
}

// much answers as many configurations as there may be, each with as much as there may be of everything.
func much() []api.Config {
	var confs []api.Config
	for i := range api.MaxRouters {
		c := api.Config{Sys: api.SysID{byte(i)}, Level: 2, Overload: true}
		for range api.MaxAreas {
			c.Areas = append(c.Areas, make([]byte, 13))
		}
		c.Host = strings.Repeat("h", 63)
		for range api.MaxCircuits {
			c.Links = append(c.Links, api.Link{Level: 3, Metric: [2]uint32{api.MaxLink, api.MaxLink}, Mesh: math.MaxUint32})
		}
		for k := range 64 {
			p := api.Prefix{Fam: 6, Len: 128, Addr: [16]byte(bytes.Repeat([]byte{byte(0xf0 + k%16)}, 16))}
			c.Leak = append(c.Leak, p)
			if k < api.MaxPrefixes {
				c.Owns = append(c.Owns, api.Own{Prefix: p, Metric: math.MaxUint32, Level: 3})
			}
		}
		for range api.MaxKeys {
			c.Keys = append(c.Keys, api.Key{ID: math.MaxUint16, Secret: make([]byte, api.MaxKey)})
		}
		confs = append(confs, c)
	}
	return confs
}

// writes looks at whether Write answers that text.
func writes(t *testing.T, confs []api.Config, cables []net.Cable, want string) {
	t.Helper()
	if s, e := conf.Write(confs, cables); s != want || e != api.OK {
		t.Errorf("Write(%s, %v) = %q, %d; want %q", short(confs), cables, short(s), e, short(want))
	}
}

// noText looks at whether Write answers that error.
func noText(t *testing.T, what string, confs []api.Config, cables []net.Cable, want api.Errno) {
	t.Helper()
	if s, e := conf.Write(confs, cables); s != "" || e != want {
		t.Errorf("Write with %s = %q, %d; want %d", what, s, e, want)
	}
}

// parses looks at whether Parse answers these.
func parses(t *testing.T, s string, confs []api.Config, cables []net.Cable) {
	t.Helper()
	c, w, at, e := conf.Parse(s)
	if !same(c, confs) || !slices.Equal(w, cables) || at != 0 || e != api.OK {
		t.Errorf("Parse(%q) = %s, %v, %d, %d; want %s, %v", short(s), short(c), w, at, e, short(confs), cables)
	}
}

// noNet looks at whether Parse answers that error.
func noNet(t *testing.T, s string, line int, want api.Errno) {
	t.Helper()
	c, w, at, e := conf.Parse(s)
	if len(c) > 0 || len(w) > 0 || at != line || e != want {
		t.Errorf("Parse(%q) = %s, %v, %d, %d; want %d, %d", short(s), short(c), w, at, e, line, want)
	}
}

// goesRound looks at whether a text is a net's, and is the net's text.
func goesRound(t *testing.T, s string) {
	t.Helper()
	confs, cables, at, e := conf.Parse(s)
	if at != 0 || e != api.OK {
		t.Errorf("Parse(%q): %d, %d", short(s), at, e)
		return
	}
	writes(t, confs, cables, s)
}

// same tells whether configurations are the same, empty and nil lists too.
func same(a, b []api.Config) bool {
	return slices.EqualFunc(a, b, func(x, y api.Config) bool { return reflect.DeepEqual(plain(x), plain(y)) })
}

// plain answers c with nil in place of empty lists.
func plain(c api.Config) api.Config {
	c.Areas = append([][]byte(nil), c.Areas...)
	c.Links = append([]api.Link(nil), c.Links...)
	c.Owns = append([]api.Own(nil), c.Owns...)
	c.Leak = append([]api.Prefix(nil), c.Leak...)
	c.Keys = append([]api.Key(nil), c.Keys...)
	return c
}

// short answers a text of what, not all of it if it is long.
func short(what any) string {
	s := fmt.Sprint(what)
	if len(s) > 400 {
		return s[:400] + " .."
	}
	return s
}
