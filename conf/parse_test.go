package conf_test

import (
	"fmt"
	"math/rand"
	"slices"
	"strings"
	"testing"

	"waymark/api"
	"waymark/conf"
	"waymark/net"
)

// P22.1: Parse

func TestParse(t *testing.T) {
	confs, cables, s := rich()
	parses(t, s, confs, cables)
	parses(t, s[:strings.Index(s, "cable")], confs, nil)
	parses(t, "router 0000.0000.0002 1\narea 01\n", confs[1:2], nil)
}

// The chapter's other examples.
func TestParseExamples(t *testing.T) {
	noNet(t, "area 4901\n", 1, api.ErrText)
	noNet(t, "router 0000.0000.0001 02\n", 1, api.ErrText)
	noNet(t, one+"link 3 10 0 0\nown 10.1.0.0/16 1 3\nlink 3 10 0 0\n", 5, api.ErrText)
	noNet(t, "router 0000.0000.0001 2\n", 0, api.ErrForm)
	noNet(t, "", 0, api.ErrArg)
}

// samples are right lines, one of each kind, by the letter that stands for it.
var samples = map[byte]string{
	'r': "router 0000.0000.000%d 2",
	'a': "area 49",
	'h': "host h",
	'o': "overload",
	'l': "link 3 10 0 0",
	'w': "own 10.1.0.0/16 1 3",
	'p': "leak 10.0.0.0/8",
	'k': "key 1 00",
	'c': "cable 0 0 0 1",
}

// TestParseOrder goes through rows of right lines of all kinds.
func TestParseOrder(t *testing.T) {
	letters := "rahlowpkc"
	for a := range len(letters) {
		for b := range len(letters) {
			for c := range len(letters) {
				for _, before := range []string{"", "r", "rah", "rar", "rahol", "rac", "rahwk"} {
					kinds := before + string([]byte{letters[a], letters[b], letters[c]})
					var s strings.Builder
					for i := range len(kinds) {
						s.WriteString(strings.Replace(samples[kinds[i]], "%d", fmt.Sprint(i), 1) + "\n")
					}
					isReadByTheModel(t, s.String())
				}
			}
		}
	}
}

// wrong are lines that can't stand anywhere, by the kind that they are to have.
var wrong = map[byte][]string{
	'r': {
		"router", "router ", "router 0000.0000.0001", "router 0000.0000.0001 ", "router 0000.0000.0001 2 ", "router 0000.0000.0001 2 2",
		"router  0000.0000.0001 2", "router 0000.0000.0001  2", " router 0000.0000.0001 2", "Router 0000.0000.0001 2", "router\t0000.0000.0001 2",
		"router 0000.0000.0001 2\r", "router 0000.0000.0001 2\x00", "router 0000.0000.00A1 2", "router 0000.0000.001 2", "router 0000.0000.00011 2",
		"router 000000000001 2", "router 2 0000.0000.0001", "routers 0000.0000.0001 2", "route 0000.0000.0001 2", "router0000.0000.0001 2",
	},
	'a': {
		"area", "area ", "area 4", "area 490", "area 4A", "area 4901 ", "area 49 01", "area 0x49", "area +1", "area g0", "area 0g", "area -1",
		"area  49", " area 49", "area 4_9", "area 49.01", "areas 49", "area 49\r", "AREA 49", "area 4:", "area /0", "area `0", "area é",
	},
	'h': {"host", "host ", "host a ", "host  a", "host a b", "host A", "host a_b", "host a/b", "host ä", "host a\r", "host \x00", "host\ta"},
	'o': {"overload ", "overload 1", "overloaded", "overloa", "overload\r", " overload", "Overload"},
	'l': {
		"link", "link 3", "link 3 10", "link 3 10 0", "link 3 10 0 ", "link 3 10 0 0 ", "link 3 10 0 0 0", "link 3  10 0 0", "link 3 10 0 -2",
		"link 3 10 0 -0", "link 3 10 0 --1", "link 3 10 0 -01", "link 3 10 0 - 1", "link 3 10 -1 0", "link 3 -1 10 0", "link -1 10 0 0",
		"link 3 10 0 -10", "link 3 10 0 +1", "link 3 10 0 1.0", "link a 10 0 0",
	},
	'w': {
		"own", "own 10.1.0.0/16", "own 10.1.0.0/16 1", "own 10.1.0.0/16 1 3 ", "own 10.1.0.0/16 1 3 3", "own 10.1.0.0 1 3", "own 10.1.1.0/16 1 3",
		"own 10.1.0.0/33 1 3", "own 010.1.0.0/16 1 3", "own 2001:DB8::/32 1 3", "own 10.1.0.0/16 -1 3", "own 10.1.0.0/16 1 -1", "own  1 3",
		"own 1 10.1.0.0/16 3",
	},
	'p': {"leak", "leak ", "leak 10.0.0.0", "leak 10.0.0.0/8 ", "leak 10.0.0.0/8 1", "leak 10.1.0.0/8", "leak 2001:0::/32", "leak 0.0.0.0/0\r", "leaks ::/0"},
	'k': {
		"key", "key 1", "key 1 ", "key 1 0", "key 1 0G", "key 1 00 ", "key 1 00 00", "key  00", "key 01 00", "key -1 00", "key a 00", "key 00 1",
		"key 1 FF", "key 1  00",
	},
	'c': {
		"cable", "cable 0", "cable 0 0 0", "cable 0 0 0 ", "cable 0 0 0 1 ", "cable 0 0 0 1 1", "cable -1 0 0 1", "cable 0 -1 0 1", "cable 0 0 -1 1",
		"cable 0 0 0 -1", "cable 0 0 0 01", "cable  0 0 0 1", "cables 0 0 0 1", "Cable 0 0 0 1",
	},
	'.': {"", " ", "\r", "\x00", "  ", "x", "#", "# area 49", "//", "ro", "\xff\xfe", "0", "-1", "é"},
}

// TestParseWrongLines puts each wrong line where a right one of its kind might stand, with right lines behind.
func TestParseWrongLines(t *testing.T) {
	before := map[byte]string{'r': one, 'a': one, 'h': one, 'o': one, 'l': one, 'w': one, 'p': one, 'k': one, 'c': one + "link 3 1 1 0\nlink 3 1 1 0\n", '.': one}
	for kind, list := range wrong {
		head := before[kind]
		count := strings.Count(head, "\n")
		if kind != '.' {
			line := samples[kind]
			if kind == 'r' {
				line = "router 0000.0000.0002 2\narea 49"
			}
			goesRound(t, head+line+"\n")
		}
		for _, line := range list {
			noNet(t, head+line+"\n", count+1, api.ErrText)
			noNet(t, head+line+"\nleak ::/0\n", count+1, api.ErrText)
			noNet(t, head+line+"\n"+line+"\n", count+1, api.ErrText)
			if line != "" {
				noNet(t, head+line, count+1, api.ErrText)
			}
		}
	}
	for _, line := range append(wrong['r'], wrong['.']...) {
		noNet(t, line+"\n", 1, api.ErrText)
		noNet(t, line+"\n"+one, 1, api.ErrText)
	}
}

// The last line must have its end, whatever it is.
func TestParseLastLine(t *testing.T) {
	_, _, s := rich()
	count := strings.Count(s, "\n")
	noNet(t, s[:len(s)-1], count, api.ErrText)
	for i := range len(s) {
		if s[i] == '\n' {
			continue
		}
		noNet(t, s[:i+1], strings.Count(s[:i], "\n")+1, api.ErrText)
	}
	noNet(t, s+" ", count+1, api.ErrText)
	noNet(t, s+"\n", count+1, api.ErrText)
	noNet(t, "\n"+s, 1, api.ErrText)
	noNet(t, "r", 1, api.ErrText)
	noNet(t, "\n", 1, api.ErrText)
	noNet(t, one+"x\n"+"area 49", 3, api.ErrText)
}

// places are texts with a number in each place where there may be one, what such a number must be, and what is answered of a greater one.
var places = []struct {
	text  string
	least uint64
	most  uint64
	e     api.Errno
}{
	{one + "router 0000.0000.0002 N\narea 49\n", 1, 3, api.ErrArg},
	{one + "link N 10 0 0\n", 1, 3, api.ErrArg},
	{one + "link 3 N 0 0\n", 0, api.MaxLink, api.ErrArg},
	{one + "link 3 10 N 0\n", 0, api.MaxLink, api.ErrArg},
	{one + "link 3 10 0 N\n", 0, 1<<32 - 1, api.OK},
	{one + "own 10.1.0.0/16 N 3\n", 0, 1<<32 - 1, api.OK},
	{one + "own 10.1.0.0/16 1 N\n", 1, 3, api.ErrArg},
	{one + "key N 00\n", 0, 1<<16 - 1, api.ErrArg},
	{two + "cable N 1 1 0\n", 0, 0, api.ErrArg},
	{two + "cable 0 N 1 0\n", 0, 1, api.ErrArg},
	{two + "cable 0 1 N 0\n", 0, 1, api.ErrArg},
	{two + "cable 0 0 1 N\n", 0, 0, api.ErrArg},
}

// two is the text of two routers with two links and one.
const two = one + "link 3 10 0 0\nlink 3 10 0 0\nrouter 0000.0000.0002 2\narea 49\nlink 3 10 0 0\n"

// A number may be greater than what may stand there, up to 2^32 - 1.
func TestParseNumbers(t *testing.T) {
	numbers := []uint64{0, 1, 2, 3, 4, 9, 10, 255, 256, 65535, 65536, 65537, 16777214, 16777215, 16777216, 1<<31 - 1, 1 << 31, 1<<32 - 2, 1<<32 - 1}
	for _, p := range places {
		head, tail, _ := strings.Cut(p.text, "N")
		for _, n := range numbers {
			s := head + fmt.Sprint(n) + tail
			if p.least <= n && n <= p.most {
				goesRound(t, s)
			} else {
				noNet(t, s, 0, p.e)
			}
		}
		for _, n := range []string{"", "00", "01", "010", "0000000001", "4294967296", "4294967297", "9999999999", "10000000000", "18446744073709551616",
			"99999999999999999999999999", "+1", "1_0", "0x1", "1e1", "1.", "\u0663", "a", "-", "-0", "-2", "1 ", " 1", "1\r"} {
			noNet(t, head+n+tail, 1+strings.Count(head, "\n"), api.ErrText)
		}
		if !strings.HasSuffix(head, "link 3 10 0 ") {
			noNet(t, head+"-1"+tail, 1+strings.Count(head, "\n"), api.ErrText)
		}
	}
}

// Whatever a net can't have, Parse answers as net.New does.
func TestParseErrors(t *testing.T) {
	link, area := "link 3 1 1 0\n", "area 49\n"
	routers := func(count int) string {
		var s strings.Builder
		for i := range count {
			fmt.Fprintf(&s, "router 0000.0000.00%02d 2\narea 49\n", i)
		}
		return s.String()
	}
	many := func(count int, line string) string {
		var s strings.Builder
		for i := range count {
			fmt.Fprintf(&s, line+"\n", i)
		}
		return s.String()
	}
	nets := func(cables int) string {
		var s strings.Builder
		for i := range api.MaxRouters {
			fmt.Fprintf(&s, "router 0000.0000.00%02d 2\narea 49\n%s", i, strings.Repeat(link, 8))
		}
		for i := range cables {
			fmt.Fprintf(&s, "cable %d %d %d %d\n", 2*i%12, i/6%8, (2*i+1)%12, i/6%8)
		}
		return s.String()
	}
	for _, c := range []struct {
		text string
		e    api.Errno
	}{
		{routers(12), api.OK},
		{routers(13), api.ErrArg},
		{"cable 0 0 0 1\n", api.ErrArg}, // no routers
		{one + strings.Repeat(area, 2), api.OK},
		{one + strings.Repeat(area, 3), api.ErrLong},
		{one + "host " + strings.Repeat("h", 63) + "\n", api.OK},
		{one + "host " + strings.Repeat("h", 64) + "\n", api.ErrLong},
		{one + strings.Repeat(link, 8), api.OK},
		{one + strings.Repeat(link, 9), api.ErrLong},
		{one + many(16, "own 10.%d.0.0/16 1 3"), api.OK},
		{one + many(17, "own 10.%d.0.0/16 1 3"), api.ErrLong},
		{one + many(64, "leak 10.%d.0.0/16"), api.OK},
		{one + many(65, "leak 10.%d.0.0/16"), api.ErrLong},
		{one + many(8, "key %d 00"), api.OK},
		{one + many(9, "key %d 00"), api.ErrLong},
		{one + "key 1 " + strings.Repeat("0a", 64) + "\n", api.OK},
		{one + "key 1 " + strings.Repeat("0a", 65) + "\n", api.ErrLong},
		{one + "area " + strings.Repeat("0a", 13) + "\n", api.OK},
		{one + "area " + strings.Repeat("0a", 14) + "\n", api.ErrForm},
		{nets(48), api.OK},
		{nets(49), api.ErrExists},
		{nets(65), api.ErrLong},
		{one + one, api.ErrExists},
		{one + "own ::/0 1 3\nown ::/0 2 3\n", api.ErrExists},
		{one + link + link + "cable 0 0 0 1\n", api.OK},
		{one + link + link + "cable 0 0 0 0\n", api.ErrExists},
		{one + link + link + "cable 0 0 0 1\ncable 0 1 0 0\n", api.ErrExists},
		{one + link + link + "cable 0 0 0 2\n", api.ErrArg},
		{one + link + link + "cable 0 0 1 0\n", api.ErrArg},
	} {
		if c.e == api.OK {
			goesRound(t, c.text)
		} else {
			noNet(t, c.text, 0, c.e)
		}
	}
}

// Too many bytes go ahead of a line that can't stand there, and that of what net.New answers; of these the least is answered.
func TestParseErrorsInOrder(t *testing.T) {
	long := strings.Repeat("leak ::/0\n", 6553)
	noNet(t, "area 4901\n"+long[:api.MaxText-10], 1, api.ErrText)
	noNet(t, "area 4901\n"+long[:api.MaxText-10]+"x", 0, api.ErrLong)
	noNet(t, strings.Repeat("x", api.MaxText), 1, api.ErrText)
	noNet(t, strings.Repeat("x", api.MaxText+1), 0, api.ErrLong)
	noNet(t, strings.Repeat("\n", api.MaxText), 1, api.ErrText)
	noNet(t, strings.Repeat("\n", api.MaxText+1), 0, api.ErrLong)
	noNet(t, strings.Repeat(one, 1928)[:api.MaxText]+one, 0, api.ErrLong)
	noNet(t, strings.Repeat(one, 1000)+"x\n", 2001, api.ErrText) // 1000 routers of one name
	noNet(t, strings.Repeat(one, 1000), 0, api.ErrArg)
	key, level, area := "key 65536 00\n", "router 0000.0000.0002 4\n", "area "+strings.Repeat("00", 14)+"\n"
	noNet(t, one+key+"overload\n", 4, api.ErrText)
	noNet(t, one+key+level+area+"x\n", 6, api.ErrText)
	noNet(t, one+key+one, 0, api.ErrArg)
	noNet(t, "router 0000.0000.0001 2\n"+key+strings.Repeat(key, 8), 0, api.ErrArg)
	noNet(t, one+one+area, 0, api.ErrForm)
	noNet(t, one+one+level, 0, api.ErrArg)
	noNet(t, one+area+strings.Repeat("link 3 0 0 0\n", 9)+one, 0, api.ErrLong)
	noNet(t, one+area+strings.Repeat("link 3 0 0 0\n", 9)+level, 0, api.ErrArg)
}

// A text of just as many bytes as there may be is read.
func TestParseLongest(t *testing.T) {
	confs := much()
	s, _ := conf.Write(confs, nil)
	for spare := len(s) - api.MaxText; spare > 0; spare = len(s) - api.MaxText {
		switch c := &confs[0]; {
		case spare > 50 && len(c.Leak) > 0: // of 50 bytes
			c.Leak = c.Leak[1:]
		case spare > 50:
			t.Fatalf("%d bytes too many", spare)
		default:
			c.Host = c.Host[spare:]
		}
		s, _ = conf.Write(confs, nil)
	}
	if len(s) != api.MaxText {
		t.Fatalf("%d bytes", len(s))
	}
	parses(t, s, confs, nil)
	noNet(t, s+"x", 0, api.ErrLong)
	noNet(t, s[:api.MaxText-1]+"x", strings.Count(s, "\n"), api.ErrText)
}

// some answers a random net that has a text.
func some(r *rand.Rand) ([]api.Config, []net.Cable) {
	var confs []api.Config
	for i := range 1 + r.Intn(5) {
		c := api.Config{Sys: api.SysID{byte(r.Intn(256)), 5: byte(i)}, Level: 1 + r.Intn(3), Overload: r.Intn(2) == 0}
		for range 1 + r.Intn(3) {
			c.Areas = append(c.Areas, someBytes(r, 13))
		}
		if r.Intn(2) == 0 {
			for range 1 + r.Intn(63) {
				c.Host += string("abcxyz019.-"[r.Intn(11)])
			}
		}
		for range 8 {
			c.Links = append(c.Links, api.Link{Level: 1 + r.Intn(3), Metric: [2]uint32{uint32(r.Intn(1 << 24)), uint32(r.Intn(10))}, Mesh: r.Intn(4) - 1})
		}
		for k := range r.Intn(17) {
			p := somePrefix(r)
			p.Addr[0], p.Len = byte(k), max(p.Len, 8)
			c.Owns = append(c.Owns, api.Own{Prefix: p, Metric: r.Uint32(), Level: 1 + r.Intn(3)})
		}
		for range r.Intn(5) {
			c.Leak = append(c.Leak, somePrefix(r))
		}
		for range r.Intn(9) {
			c.Keys = append(c.Keys, api.Key{ID: uint16(r.Intn(1 << 16)), Secret: someBytes(r, 64)})
		}
		confs = append(confs, c)
	}
	var cables []net.Cable
	ends := r.Perm(8 * len(confs))
	for range r.Intn(4 * len(confs)) {
		cables = append(cables, net.Cable{A: ends[0] / 8, CA: ends[0] % 8, B: ends[1] / 8, CB: ends[1] % 8})
		ends = ends[2:]
	}
	return confs, cables
}

// someBytes answers up to so many.
func someBytes(r *rand.Rand, most int) []byte {
	p := make([]byte, 1+r.Intn(most))
	r.Read(p)
	return p
}

// somePrefix answers one in form.
func somePrefix(r *rand.Rand) api.Prefix {
	p := api.Prefix{Fam: 4, Len: r.Intn(33)}
	if r.Intn(2) == 0 {
		p = api.Prefix{Fam: 6, Len: r.Intn(129)}
	}
	for i := range p.Len {
		if r.Intn(2) == 0 {
			p.Addr[i/8] |= 0x80 >> (i % 8)
		}
	}
	return p
}

// What is written is read again, and a text with something turned is another net's text or none.
func TestThereAndBack(t *testing.T) {
	for seed := range 150 {
		r := rand.New(rand.NewSource(int64(seed)))
		confs, cables := some(r)
		s, e := conf.Write(confs, cables)
		if e != api.OK {
			t.Fatalf("Write(%v, %v): %d", confs, cables, e)
		}
		parses(t, s, confs, cables)
		for range 20 {
			turned(t, r, s)
		}
		if t.Failed() {
			t.Fatalf("the net %d", seed)
		}
	}
}

// turned looks at how the text is read with some bytes turned, left out or put in.
func turned(t *testing.T, r *rand.Rand, s string) {
	t.Helper()
	b := []byte(s)
	for range 1 + r.Intn(2) {
		k := r.Intn(len(b))
		switch c := "\n 0123456789abcdefz.:/-"[r.Intn(23)]; r.Intn(3) {
		case 0:
			b[k] = c
		case 1:
			b = slices.Delete(b, k, k+1)
		default:
			b = slices.Insert(b, k, c)
		}
	}
	isReadByTheModel(t, string(b))
}

// Memory

func TestParseAnswersAreNew(t *testing.T) {
	want, ends, s := rich()
	confs, cables, _, _ := conf.Parse(s)
	again, joins, _, _ := conf.Parse(s)
	for i := range confs {
		c := &confs[i]
		for _, area := range c.Areas {
			// Also what an area might share with the next one.
			clear(area[:cap(area)])
		}
		clear(c.Areas[:cap(c.Areas)])
		clear(c.Links[:cap(c.Links)])
		clear(c.Owns[:cap(c.Owns)])
		clear(c.Leak[:cap(c.Leak)])
		for _, k := range c.Keys {
			clear(k.Secret[:cap(k.Secret)])
		}
		clear(c.Keys[:cap(c.Keys)])
		if !same(confs[i+1:], want[i+1:]) {
			t.Errorf("with the router %d cleared others are %v", i, confs[i+1:])
		}
	}
	clear(confs[:cap(confs)])
	clear(cables[:cap(cables)])
	if !same(again, want) || !slices.Equal(joins, ends) {
		t.Errorf("what was answered became %v, %v", again, joins)
	}
	parses(t, s, want, ends)
}

// Lists of one answer share no memory, spare room too.
func TestParseListsAreApart(t *testing.T) {
	want, _, s := rich()
	confs, _, _, _ := conf.Parse(s)
	for i := range confs {
		c := &confs[i]
		for k := range c.Areas {
			clear(append(c.Areas[k], 1, 2, 3, 4)[len(c.Areas[k]):])
		}
		for k := range c.Keys {
			clear(append(c.Keys[k].Secret, 1, 2, 3, 4)[len(c.Keys[k].Secret):])
		}
		_ = append(c.Links, api.Link{Level: 9})
		_ = append(c.Owns, api.Own{Level: 9})
		_ = append(c.Leak, api.Prefix{Fam: 9})
		_ = append(c.Areas, []byte{9})
		_ = append(c.Keys, api.Key{ID: 9})
	}
	if !same(confs, want) {
		t.Errorf("with lists made longer the answer is %v", confs)
	}
}
