package conf_test

import (
	"math"
	"slices"
	"strings"
	"testing"

	"waymark/api"
	"waymark/conf"
	"waymark/net"
)

// P22.1: Write

func TestWrite(t *testing.T) {
	confs, cables, s := rich()
	writes(t, confs, cables, s)
	writes(t, confs[:1], nil, s[:strings.Index(s, "router 0000.0000.0002")])
	writes(t, confs[1:2], []net.Cable{}, "router 0000.0000.0002 1\narea 01\n")
	confs[1].Links, confs[1].Owns, confs[1].Leak, confs[1].Keys = []api.Link{}, []api.Own{}, []api.Prefix{}, []api.Key{}
	writes(t, confs, cables, s)
}

// The chapter's first example.
func TestWriteExample(t *testing.T) {
	c := api.Config{Sys: api.SysID{5: 1}, Level: 2, Areas: [][]byte{{0x49, 1}}}
	c.Links = []api.Link{{Level: 3, Metric: [2]uint32{10, 0}}}
	c.Owns = []api.Own{{Prefix: api.Prefix{Fam: 4, Len: 16, Addr: [16]byte{10, 1}}, Metric: 1, Level: 3}}
	s := "router 0000.0000.0001 2\narea 4901\nlink 3 10 0 0\nown 10.1.0.0/16 1 3\n"
	writes(t, []api.Config{c}, nil, s)
	parses(t, s, []api.Config{c}, nil)
}

// fault is what makes a net have no text, and the error that it makes.
type fault struct {
	what  string
	e     api.Errno
	confs func([]api.Config) []api.Config
	cable net.Cable
}

// inFirst answers what spoils the first router.
func inFirst(spoil func(*api.Config)) func([]api.Config) []api.Config {
	return func(confs []api.Config) []api.Config {
		spoil(&confs[0])
		return confs
	}
}

// faults are in the order of their errors.
func faults() []fault {
	loop := net.Cable{A: 2, CA: 5, B: 2, CB: 6} // which is right
	as := func(spoil func(*api.Config)) func([]api.Config) []api.Config { return inFirst(spoil) }
	return []fault{
		{"no routers", api.ErrArg, func([]api.Config) []api.Config { return nil }, loop},
		{"a level of 0", api.ErrArg, as(func(c *api.Config) { c.Level = 0 }), loop},
		{"a level of -1", api.ErrArg, as(func(c *api.Config) { c.Level = -1 }), loop},
		{"a link's metric", api.ErrArg, as(func(c *api.Config) { c.Links[0].Metric[1] = api.MaxLink + 1 }), loop},
		{"a mesh of -2", api.ErrArg, as(func(c *api.Config) { c.Links[0].Mesh = -2 }), loop},
		{"an own's level", api.ErrArg, as(func(c *api.Config) { c.Owns[0].Level = 4 }), loop},
		{"a cable's circuit", api.ErrArg, as(func(*api.Config) {}), net.Cable{A: 2, CA: 5, B: 2, CB: 8}},
		{"a cable's router", api.ErrArg, as(func(*api.Config) {}), net.Cable{A: 3, CA: 0, B: 2, CB: 5}},
		{"a long host", api.ErrLong, as(func(c *api.Config) { c.Host = strings.Repeat("a", 64) }), loop},
		{"a long host that is none", api.ErrLong, as(func(c *api.Config) { c.Host = strings.Repeat("A", 64) }), loop},
		{"keys", api.ErrLong, as(func(c *api.Config) { c.Keys = slices.Repeat(c.Keys, 3) }), loop},
		{"no areas", api.ErrForm, as(func(c *api.Config) { c.Areas = nil }), loop},
		{"a prefix", api.ErrForm, as(func(c *api.Config) { c.Leak[0].Len = 129 }), loop},
		{"a great letter", api.ErrForm, as(func(c *api.Config) { c.Host = "aB" }), loop},
		{"a mesh of 2^32", api.ErrForm, as(func(c *api.Config) { c.Links[2].Mesh = math.MaxUint32 + 1 }), loop},
		{"two of one name", api.ErrExists, as(func(c *api.Config) { c.Sys = api.SysID{5: 2} }), loop},
		{"two owns of one prefix", api.ErrExists, as(func(c *api.Config) { c.Owns[1].Prefix = c.Owns[0].Prefix }), loop},
		{"two cables at a circuit", api.ErrExists, as(func(*api.Config) {}), net.Cable{A: 2, CA: 5, B: 2, CB: 0}},
	}
}

func TestWriteErrors(t *testing.T) {
	for _, f := range faults() {
		confs, cables, _ := rich()
		noText(t, f.what, f.confs(confs), append(cables, f.cable), f.e)
	}
	confs, cables, _ := rich()
	noText(t, "13 routers", slices.Repeat(confs, 5)[:13], cables, api.ErrArg)
	noText(t, "65 cables", confs, slices.Repeat(cables, 22)[:65], api.ErrLong)
	noText(t, "nothing", nil, nil, api.ErrArg)
}

// Of several errors the least one is answered, wherever it is.
func TestWriteLeastError(t *testing.T) {
	for i, f := range faults() {
		for _, g := range faults()[i:] {
			if f.what == "no routers" {
				continue
			}
			confs, cables, _ := rich()
			confs = f.confs(g.confs(confs))
			noText(t, f.what+" and "+g.what, confs, append(cables, f.cable, g.cable), f.e)
		}
	}
	confs, cables, _ := rich()
	confs[0].Sys, confs[2].Host = confs[1].Sys, "_"
	noText(t, "a host in the last one", confs, cables, api.ErrForm)
	confs[1].Level = 9
	noText(t, "a level as well", confs, cables, api.ErrArg)
}

// Each byte may stand in a host, or not, wherever it stands.
func TestWriteHost(t *testing.T) {
	for b := range 256 {
		for _, around := range [][2]string{{"", ""}, {"a", ""}, {"", "9"}, {"a.", "-z"}} {
			host := around[0] + string([]byte{byte(b)}) + around[1]
			confs := []api.Config{{Level: 1, Areas: [][]byte{{1}}, Host: host}}
			head := "router 0000.0000.0000 1\narea 01\n"
			if strings.IndexByte("abcdefghijklmnopqrstuvwxyz0123456789.-", byte(b)) < 0 {
				noText(t, "host "+host, confs, nil, api.ErrForm)
				if b != '\n' {
					noNet(t, head+"host "+host+"\n", 3, api.ErrText)
				}
				continue
			}
			writes(t, confs, nil, head+"host "+host+"\n")
			parses(t, head+"host "+host+"\n", confs, nil)
		}
	}
}

func TestWriteMesh(t *testing.T) {
	for mesh, text := range map[int]string{-1: "-1", 0: "0", 1: "1", math.MaxInt32 + 1: "2147483648", math.MaxUint32: "4294967295"} {
		c := api.Config{Level: 1, Areas: [][]byte{{1}}, Links: []api.Link{{Level: 1, Mesh: mesh}}}
		writes(t, []api.Config{c}, nil, "router 0000.0000.0000 1\narea 01\nlink 1 0 0 "+text+"\n")
	}
	for mesh, e := range map[int]api.Errno{-2: api.ErrArg, math.MinInt: api.ErrArg, math.MaxUint32 + 1: api.ErrForm, math.MaxInt: api.ErrForm} {
		c := api.Config{Level: 1, Areas: [][]byte{{1}}, Links: []api.Link{{Level: 1}, {Level: 1, Mesh: mesh}}}
		noText(t, "a mesh", []api.Config{c}, nil, e)
	}
}

// A net of the greatest configurations has a text, though one that is too long to be read again.
func TestWriteMuch(t *testing.T) {
	confs := much()
	s, e := conf.Write(confs, nil)
	if len(s) <= api.MaxText || e != api.OK {
		t.Fatalf("Write answered %d bytes, %d", len(s), e)
	}
	noNet(t, s, 0, api.ErrLong)
	s, _ = conf.Write(confs[:4], nil)
	parses(t, s, confs[:4], nil)
}

// What is handed in is neither changed nor kept.
func TestWriteChangesNothing(t *testing.T) {
	confs, cables, s := rich()
	writes(t, confs, cables, s)
	was, ends, _ := rich()
	if !same(confs, was) || !slices.Equal(cables, ends) {
		t.Errorf("what was handed in became %v, %v", confs, cables)
	}
	got, _ := conf.Write(confs, cables)
	for _, c := range confs {
		clear(c.Areas[0])
		clear(c.Links)
	}
	clear(confs)
	clear(cables)
	if got != s {
		t.Errorf("what was answered became %q", got)
	}
}
