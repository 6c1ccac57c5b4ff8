package daemon_test

import (
	"bytes"
	"math"
	"slices"
	"strings"
	"testing"

	"waymark/api"
	"waymark/daemon"
)

// P19.1

// full answers a configuration with as much as there may be of everything.
func full() api.Config {
	c := api.Config{Sys: sys(1), Level: api.Both, Host: strings.Repeat("h", 63), Overload: true}
	for i := range api.MaxAreas {
		c.Areas = append(c.Areas, bytes.Repeat([]byte{byte(i + 1)}, []int{1, 7, 13}[i]))
	}
	for i := range api.MaxCircuits {
		c.Links = append(c.Links, api.Link{Level: 1 + i%3, Metric: [2]uint32{api.MaxLink, 0}, Mesh: []int{-1, 0, 1, math.MaxInt}[i%4]})
	}
	for i := range api.MaxPrefixes {
		p := api.Prefix{Fam: 4, Len: 16, Addr: [16]byte{10, byte(i)}}
		if i%2 == 1 {
			p.Fam = 6
		}
		c.Owns = append(c.Owns, api.Own{Prefix: p, Metric: math.MaxUint32, Level: 1 + i%3})
	}
	for i := range 64 {
		c.Leak = append(c.Leak, api.Prefix{Fam: 4, Len: 8, Addr: [16]byte{byte(i % 5)}})
	}
	for i := range api.MaxKeys {
		c.Keys = append(c.Keys, api.Key{ID: uint16(i % 2), Secret: bytes.Repeat([]byte{byte(i)}, 1+63*(i%2))})
	}
	return c
}

// checks looks at what Check and New answer, and Configure of a router that was made of another configuration.
func checks(t *testing.T, what string, c api.Config, want api.Errno) {
	t.Helper()
	if e := daemon.Check(c); e != want {
		t.Errorf("Check with %s = %d; want %d", what, e, want)
	}
	if d, e := daemon.New(c); e != want || (d != nil) != (e == api.OK) {
		t.Errorf("New with %s = %v, %d; want %d", what, d, e, want)
	}
	d := make1(t, full())
	if e := d.Configure(c); want != api.OK && e != want {
		t.Errorf("Configure with %s = %d; want %d", what, e, want)
	}
}

func TestCheckOK(t *testing.T) {
	checks(t, "all", full(), api.OK)
	checks(t, "little", api.Config{Level: 1, Areas: [][]byte{{0}}}, api.OK)
	for level := range 3 {
		checks(t, "a level", conf(level+1, 2), api.OK)
	}
	c := full()
	c.Owns[0].Prefix, c.Owns[1].Prefix = net("0.0.0.0/0"), net("::/0") // nought bits of two families
	checks(t, "two prefixes of no bits", c, api.OK)
	c.Leak = []api.Prefix{net("::/0"), net("::/0")}
	checks(t, "one leak twice", c, api.OK)
}

// faults are what makes a configuration not be in form, and the error that it makes.
func faults() map[string]struct {
	turn func(*api.Config)
	e    api.Errno
} {
	type fault = struct {
		turn func(*api.Config)
		e    api.Errno
	}
	return map[string]fault{
		"level 0":            {func(c *api.Config) { c.Level = 0 }, api.ErrArg},
		"level 4":            {func(c *api.Config) { c.Level = 4 }, api.ErrArg},
		"level -1":           {func(c *api.Config) { c.Level = -1 }, api.ErrArg},
		"level 5":            {func(c *api.Config) { c.Level = 5 }, api.ErrArg},
		"a link's level 0":   {func(c *api.Config) { c.Links[7].Level = 0 }, api.ErrArg},
		"a link's level 4":   {func(c *api.Config) { c.Links[7].Level = 4 }, api.ErrArg},
		"a link's level -1":  {func(c *api.Config) { c.Links[0].Level = -1 }, api.ErrArg},
		"a metric, IPv4's":   {func(c *api.Config) { c.Links[3].Metric[0] = api.MaxLink + 1 }, api.ErrArg},
		"a metric, IPv6's":   {func(c *api.Config) { c.Links[7].Metric[1] = math.MaxUint32 }, api.ErrArg},
		"a mesh of -2":       {func(c *api.Config) { c.Links[7].Mesh = -2 }, api.ErrArg},
		"the least mesh":     {func(c *api.Config) { c.Links[0].Mesh = math.MinInt }, api.ErrArg},
		"an own's level 0":   {func(c *api.Config) { c.Owns[15].Level = 0 }, api.ErrArg},
		"an own's level 4":   {func(c *api.Config) { c.Owns[0].Level = 4 }, api.ErrArg},
		"an own's level -3":  {func(c *api.Config) { c.Owns[0].Level = -3 }, api.ErrArg},
		"areas":              {func(c *api.Config) { c.Areas = append(c.Areas, []byte{9}) }, api.ErrLong},
		"the host":           {func(c *api.Config) { c.Host += "h" }, api.ErrLong},
		"links":              {func(c *api.Config) { c.Links = append(c.Links, c.Links[0]) }, api.ErrLong},
		"owns":               {func(c *api.Config) { c.Owns = append(c.Owns, api.Own{Prefix: net("::/0"), Level: 1}) }, api.ErrLong},
		"leaks":              {func(c *api.Config) { c.Leak = append(c.Leak, c.Leak[0]) }, api.ErrLong},
		"keys":               {func(c *api.Config) { c.Keys = append(c.Keys, c.Keys[0]) }, api.ErrLong},
		"a secret":           {func(c *api.Config) { c.Keys[7].Secret = make([]byte, 65) }, api.ErrLong},
		"no areas":           {func(c *api.Config) { c.Areas = nil }, api.ErrForm},
		"an empty area":      {func(c *api.Config) { c.Areas[2] = nil }, api.ErrForm},
		"an area of 14":      {func(c *api.Config) { c.Areas[0] = make([]byte, 14) }, api.ErrForm},
		"an empty secret":    {func(c *api.Config) { c.Keys[7].Secret = nil }, api.ErrForm},
		"an own's family":    {func(c *api.Config) { c.Owns[0].Prefix.Fam = 5 }, api.ErrForm},
		"an own's length":    {func(c *api.Config) { c.Owns[0].Prefix.Len = 33 }, api.ErrForm},
		"an own's bits":      {func(c *api.Config) { c.Owns[15].Prefix.Addr[15] = 1 }, api.ErrForm},
		"a leak's family":    {func(c *api.Config) { c.Leak[63].Fam = 0 }, api.ErrForm},
		"a leak's bits":      {func(c *api.Config) { c.Leak[0].Addr[1] = 1 }, api.ErrForm},
		"a leak's length":    {func(c *api.Config) { c.Leak[5].Len = -1 }, api.ErrForm},
		"owns of one prefix": {func(c *api.Config) { c.Owns[15].Prefix = c.Owns[0].Prefix; c.Owns[15].Level = 2 }, api.ErrExists},
		"neighbours of one":  {func(c *api.Config) { c.Owns[4].Prefix = c.Owns[3].Prefix }, api.ErrExists},
	}
}

func TestCheckErrors(t *testing.T) {
	for what, f := range faults() {
		c := full()
		f.turn(&c)
		checks(t, what, c, f.e)
	}
}

// Of several errors the least one is answered.
func TestCheckLeastError(t *testing.T) {
	turns := []func(*api.Config){
		func(c *api.Config) { c.Links[2].Mesh = -2 },
		func(c *api.Config) { c.Host += "h" },
		func(c *api.Config) { c.Leak[60].Len = 129 },
		func(c *api.Config) { c.Owns[9].Prefix = c.Owns[7].Prefix },
	}
	errors := []api.Errno{api.ErrArg, api.ErrLong, api.ErrForm, api.ErrExists}
	for some := range 1 << len(turns) {
		c, want := full(), api.OK
		for i, turn := range turns {
			if some>>i&1 == 1 {
				turn(&c)
				if want == api.OK {
					want = errors[i]
				}
			}
		}
		checks(t, "several faults", c, want)
	}
}

// New settles once: all is told and there are routes, but nothing is known of anybody.
func TestNew(t *testing.T) {
	c := conf(api.Both, 1)
	c.Host, c.Overload = "host", true
	c.Owns = []api.Own{{Prefix: net("10.1.0.0/16"), Metric: 3, Level: api.L1}, {Prefix: net("2001:db8::/32"), Metric: 4, Level: api.L2}}
	d := make1(t, c)
	if d.Now() != 0 {
		t.Errorf("Now = %d", d.Now())
	}
	isDown(t, d, 0)
	one := api.LSP{Level: 1, ID: id(1, 0), Seq: 1, Life: api.MaxAge, Areas: c.Areas, Host: "host", Overload: true}
	two := one
	two.Level = 2
	one.Reach[0] = []api.Reach{{Prefix: net("10.1.0.0/16"), Metric: 3}}
	two.Reach = [2][]api.Reach{one.Reach[0], {{Prefix: net("2001:db8::/32"), Metric: 4}}}
	holdsAs(t, d, one)
	holdsAs(t, d, two)
	if len(d.Entries(1)) != 1 || len(d.Entries(2)) != 1 {
		t.Errorf("Entries = %v, %v", d.Entries(1), d.Entries(2))
	}
	routesAre(t, d, 0, way("10.1.0.0/16", api.RouteLocal, 3))
	routesAre(t, d, 1, way("2001:db8::/32", api.RouteLocal, 4))
	for level := api.L1; level <= api.L2; level++ {
		d = make1(t, conf(level, 0))
		if len(d.Entries(level)) != 1 || len(d.Entries(3-level)) != 0 {
			t.Errorf("Entries = %v, %v", d.Entries(1), d.Entries(2))
		}
		if out := d.Tick(); len(out) != 0 || d.Now() != 1 {
			t.Errorf("Tick = %v, Now = %d", out, d.Now())
		}
	}
}

// What is handed in is neither changed nor kept.
func TestNewKeepsNothing(t *testing.T) {
	c, was := full(), full()
	c.Overload, was.Overload = false, false
	d, other := make1(t, c), make1(t, was)
	if !same(c, was) {
		t.Errorf("what was handed in became %v", c)
	}
	spoil(&c)
	agree(t, d, other)
	c = full()
	c.Keys = c.Keys[2:] // other keys
	was = full()
	was.Keys = was.Keys[2:]
	if d.Configure(c) != api.OK || other.Configure(was) != api.OK {
		t.Error("Configure")
	}
	spoil(&c)
	agree(t, d, other)
}

// The leaks are kept as they were, too.
func TestNewKeepsNoLeak(t *testing.T) {
	c := conf(api.Both, 1)
	c.Leak = []api.Prefix{net("10.0.0.0/8")}
	d := make1(t, c)
	c.Leak[0] = net("11.0.0.0/8")
	meet(t, d, 0, 2)
	hears(t, d, 0, tells(say(2, 2, 1, 1), "10.2.0.0/16", "11.2.0.0/16"))
	d.Tick()
	if l := held(t, d, 1, id(1, 0)); len(l.Reach[0]) != 1 || l.Reach[0][0].Prefix != net("10.2.0.0/16") {
		t.Errorf("%v is told", l.Reach)
	}
}

// spoil writes over all that c has in memory.
func spoil(c *api.Config) {
	for _, area := range c.Areas {
		fill(area)
	}
	for i := range c.Keys {
		fill(c.Keys[i].Secret)
	}
	clear(c.Areas)
	clear(c.Links)
	clear(c.Owns)
	clear(c.Leak)
	clear(c.Keys)
}

// fill writes over a list, its spare room too.
func fill(p []byte) {
	p = p[:cap(p)]
	for i := range p {
		p[i] = 0xee
	}
}

// agree looks at whether two routers go on alike.
func agree(t *testing.T, a, b *daemon.Daemon) {
	t.Helper()
	for _, d := range []*daemon.Daemon{a, b} {
		for c := range 8 {
			link(t, d, c, true)
		}
	}
	for range 12 {
		x, y := a.Tick(), b.Tick()
		if !same(x, y) {
			t.Fatalf("at %d %v goes out of one, %v of the other", a.Now(), x, y)
		}
		for level := 1; level <= 2; level++ {
			if !slices.Equal(a.Entries(level), b.Entries(level)) {
				t.Fatalf("at %d they hold %v and %v", a.Now(), a.Entries(level), b.Entries(level))
			}
		}
		if !same(a.Routes(0), b.Routes(0)) || !same(a.Routes(1), b.Routes(1)) {
			t.Fatalf("at %d they have other routes", a.Now())
		}
	}
}
