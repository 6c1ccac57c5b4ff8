package keep_test

import (
	"reflect"
	"testing"

	"waymark/api"
	"waymark/keep"
)

// full answers a configuration with something of everything.
func full() api.Config {
	p := api.Prefix{Fam: 4, Len: 8, Addr: [16]byte{10}}
	return api.Config{
		Sys:      api.SysID{1},
		Level:    api.Both,
		Areas:    [][]byte{{0x49, 1}, {0x49}},
		Host:     "host",
		Overload: true,
		Links:    []api.Link{{Level: 1, Metric: [2]uint32{2, 3}, Mesh: 4}},
		Owns:     []api.Own{{Prefix: p, Metric: 5, Level: 2}},
		Leak:     []api.Prefix{p},
		Keys:     []api.Key{{ID: 6, Secret: []byte("secret")}, {ID: 7, Secret: []byte("other")}},
	}
}

func TestConfig(t *testing.T) {
	for _, c := range []api.Config{{}, full()} {
		if k := keep.Config(c); !reflect.DeepEqual(k, c) {
			t.Errorf("Config(%v) = %v", c, k)
		}
	}
}

func TestConfigIsNewMemory(t *testing.T) {
	c := full()
	k := keep.Config(c)
	for _, area := range c.Areas {
		clear(area)
	}
	for _, key := range c.Keys {
		clear(key.Secret)
	}
	clear(c.Areas)
	clear(c.Links)
	clear(c.Owns)
	clear(c.Leak)
	clear(c.Keys)
	if !reflect.DeepEqual(k, full()) {
		t.Errorf("what is kept became %v", k)
	}
}
