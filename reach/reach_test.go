package reach_test

import (
	"bytes"
	"encoding/hex"
	"math/rand"
	"slices"
	"strings"
	"testing"

	"waymark/api"
	"waymark/prefix"
	"waymark/reach"
)

// raw answers the bytes that stand in the text to the base 16.
func raw(text string) []byte {
	p, err := hex.DecodeString(strings.ReplaceAll(text, " ", ""))
	if err != nil {
		panic(err)
	}
	return p
}

// net answers the prefix of that text.
func net(text string) api.Prefix {
	p, e := prefix.Parse(text)
	if e != api.OK {
		panic(text)
	}
	return p
}

// to answers an edge to a node whose name is that one byte six times.
func to(b, pseudo byte, metric uint32) api.Edge {
	return api.Edge{To: api.Node{Sys: api.SysID{b, b, b, b, b, b}, Pseudo: pseudo}, Metric: metric}
}

var edgeCases = []struct {
	list []api.Edge
	p    string
}{
	{nil, ""},
	{[]api.Edge{}, ""},
	{[]api.Edge{{To: api.Node{Sys: api.SysID{0, 0, 0, 0, 0, 1}, Pseudo: 2}, Metric: 10}}, "000000000001 02 00000a 00"},
	{[]api.Edge{{To: api.Node{Sys: api.SysID{1, 2, 3, 4, 5, 6}, Pseudo: 7}, Metric: 0x08090a}}, "010203040506 07 08090a 00"},
	{[]api.Edge{{}}, "000000000000 00 000000 00"},
	{[]api.Edge{to(255, 255, api.MaxLink)}, "ffffffffffff ff ffffff 00"},
	{[]api.Edge{to(2, 0, 1), to(1, 3, 256)}, "020202020202 00 000001 00 010101010101 03 000100 00"}, // in order
	{[]api.Edge{to(9, 9, 9), to(9, 9, 9)}, "090909090909 09 000009 00 090909090909 09 000009 00"},
}

// P5.1

func TestEdges(t *testing.T) {
	for _, c := range edgeCases {
		if p, e := reach.PutEdges(c.list); !bytes.Equal(p, raw(c.p)) || e != api.OK {
			t.Errorf("PutEdges(%v) = %x, %d; want %s", c.list, p, e, c.p)
		}
		if list, e := reach.GetEdges(raw(c.p)); !slices.Equal(list, c.list) || e != api.OK {
			t.Errorf("GetEdges(%s) = %v, %d; want %v", c.p, list, e, c.list)
		}
	}
}

func TestEdgesNotLookedAt(t *testing.T) {
	for _, c := range []struct {
		p    string
		list []api.Edge
	}{
		{"010101010101 02 000003 01 ff", []api.Edge{to(1, 2, 3)}},
		{"010101010101 02 000003 03 000000", []api.Edge{to(1, 2, 3)}},
		{"010101010101 02 000003 02 aabb 040404040404 05 000006 00", []api.Edge{to(1, 2, 3), to(4, 5, 6)}},
		{"010101010101 02 000003 0b 040404040404 05 000006 00", []api.Edge{to(1, 2, 3)}},
		{"010101010101 02 000003 f4" + strings.Repeat("cc", 244), []api.Edge{to(1, 2, 3)}},
	} {
		if list, e := reach.GetEdges(raw(c.p)); !slices.Equal(list, c.list) || e != api.OK {
			t.Errorf("GetEdges(%s) = %v, %d; want %v", c.p, list, e, c.list)
		}
	}
}

func TestPutEdgesErrors(t *testing.T) {
	bad := to(1, 1, api.MaxLink+1)
	for _, c := range []struct {
		list []api.Edge
		e    api.Errno
	}{
		{slices.Repeat([]api.Edge{to(1, 1, 1)}, 22), api.OK},
		{slices.Repeat([]api.Edge{to(1, 1, 1)}, 23), api.OK},
		{slices.Repeat([]api.Edge{to(1, 1, 1)}, 24), api.ErrLong},
		{slices.Repeat([]api.Edge{to(1, 1, 1)}, 5000), api.ErrLong},
		{[]api.Edge{bad}, api.ErrRange},
		{[]api.Edge{to(1, 1, 1<<32-1)}, api.ErrRange},
		{[]api.Edge{to(1, 1, 1<<31)}, api.ErrRange},
		{append(slices.Repeat([]api.Edge{to(1, 1, 1)}, 22), bad), api.ErrRange},
		{append([]api.Edge{bad}, to(1, 1, 1)), api.ErrRange},
		{slices.Repeat([]api.Edge{bad}, 24), api.ErrLong},
	} {
		p, e := reach.PutEdges(c.list)
		if e != c.e || e != api.OK && len(p) > 0 || e == api.OK && len(p) != 11*len(c.list) {
			t.Errorf("PutEdges(%d edges) = %x, %d; want %d", len(c.list), p, e, c.e)
		}
	}
}

func TestGetEdgesErrors(t *testing.T) {
	two := raw("010101010101 02 000003 02 aabb 040404040404 05 000006 00")
	whole := map[int]bool{0: true, 13: true, 24: true}
	for n := range len(two) + 1 {
		list, e := reach.GetEdges(two[:n])
		if whole[n] != (e == api.OK) || e != api.OK && (e != api.ErrForm || len(list) > 0) {
			t.Errorf("GetEdges(%x) = %v, %d", two[:n], list, e)
		}
	}
	full := raw("010101010101 02 000003 ff" + strings.Repeat("cc", 255))
	for _, c := range []struct {
		p []byte
		e api.Errno
	}{
		{full[:255], api.ErrForm}, // 244 are left of 255
		{full[:256], api.ErrLong},
		{full, api.ErrLong},
		{make([]byte, 253), api.OK},
		{make([]byte, 254), api.ErrForm},
		{make([]byte, 255), api.ErrForm},
		{make([]byte, 256), api.ErrLong},
		{make([]byte, 264), api.ErrLong}, // 24 edges
		{make([]byte, 1<<16), api.ErrLong},
	} {
		if list, e := reach.GetEdges(c.p); e != c.e || e != api.OK && len(list) > 0 {
			t.Errorf("GetEdges(%d bytes) = %v, %d; want %d", len(c.p), list, e, c.e)
		}
	}
}

// told answers a prefix as it is told.
func told(text string, metric uint32, down bool) api.Reach {
	return api.Reach{Prefix: net(text), Metric: metric, Down: down}
}

var reachCases = []struct {
	fam  byte
	list []api.Reach
	p    string
}{
	{4, nil, ""},
	{6, nil, ""},
	{4, []api.Reach{}, ""},
	{4, []api.Reach{told("10.1.0.0/16", 5, true)}, "00000005 90 0a01"},
	{4, []api.Reach{told("10.1.0.0/16", 5, false)}, "00000005 10 0a01"},
	{6, []api.Reach{told("::/0", 1, false)}, "00000001 00 00"},
	{6, []api.Reach{told("::/0", 1, true)}, "00000001 80 00"},
	{4, []api.Reach{told("0.0.0.0/0", 0, false)}, "00000000 00"},
	{4, []api.Reach{told("0.0.0.0/0", 1<<32-1, true)}, "ffffffff 80"},
	{4, []api.Reach{told("128.0.0.0/1", 0x01020304, false)}, "01020304 01 80"},
	{4, []api.Reach{told("254.0.0.0/7", 0, false), told("10.0.0.0/8", 0, true)}, "00000000 07 fe 00000000 88 0a"},
	{4, []api.Reach{told("10.128.0.0/9", api.MaxPath, false)}, "fe000000 09 0a80"},
	{4, []api.Reach{told("1.2.3.0/24", 1, false), told("1.2.3.128/25", 2, true)}, "00000001 18 010203 00000002 99 01020380"},
	{4, []api.Reach{told("255.255.255.255/32", 9, true)}, "00000009 a0 ffffffff"},
	{4, []api.Reach{told("255.255.255.254/31", 9, false)}, "00000009 1f fffffffe"},
	{6, []api.Reach{told("2001:db8::/32", 7, false)}, "00000007 00 20 20010db8"},
	{6, []api.Reach{told("2001:db8:8000::/33", 7, true), told("8000::/1", 0, false)}, "00000007 80 21 20010db880 00000000 00 01 80"},
	{6, []api.Reach{told("::1/128", 3, false)}, "00000003 00 80 00000000000000000000000000000001"},
	{6, []api.Reach{told("::fffe/127", 1<<32-1, true)}, "ffffffff 80 7f 0000000000000000000000000000fffe"},
}

func TestReach(t *testing.T) {
	for _, c := range reachCases {
		if p, e := reach.PutReach(c.fam, c.list); !bytes.Equal(p, raw(c.p)) || e != api.OK {
			t.Errorf("PutReach(%d, %v) = %x, %d; want %s", c.fam, c.list, p, e, c.p)
		}
		if list, e := reach.GetReach(c.fam, raw(c.p)); !slices.Equal(list, c.list) || e != api.OK {
			t.Errorf("GetReach(%d, %s) = %v, %d; want %v", c.fam, c.p, list, e, c.list)
		}
	}
}

func TestReachNotLookedAt(t *testing.T) {
	for _, c := range []struct {
		fam  byte
		p    string
		list []api.Reach
	}{
		{4, "00000005 50 0a01 02 aabb", []api.Reach{told("10.1.0.0/16", 5, false)}},
		{4, "00000005 d0 0a01 02 aabb", []api.Reach{told("10.1.0.0/16", 5, true)}},
		{4, "00000005 50 0a01 00", []api.Reach{told("10.1.0.0/16", 5, false)}},
		{4, "00000005 40 00 00000006 00", []api.Reach{told("0.0.0.0/0", 5, false), told("0.0.0.0/0", 6, false)}},
		{4, "00000005 50 0a01 01 ff 00000006 08 0b", []api.Reach{told("10.1.0.0/16", 5, false), told("11.0.0.0/8", 6, false)}},
		{4, "00000005 60 01020304 03 010203", []api.Reach{told("1.2.3.4/32", 5, false)}},
		{4, "00000005 40 f9" + strings.Repeat("07", 249), []api.Reach{told("0.0.0.0/0", 5, false)}},
		{6, "00000005 20 08 fd 02 aabb", []api.Reach{told("fd00::/8", 5, false)}},
		{6, "00000005 a0 08 fd 00", []api.Reach{told("fd00::/8", 5, true)}},
		{6, "00000005 20 00 01 99 00000006 80 01 80", []api.Reach{told("::/0", 5, false), told("8000::/1", 6, true)}},
		// Bits of the first byte that mean nothing.
		{6, "00000005 5f 08 fd 00000006 df 08 fc", []api.Reach{told("fd00::/8", 5, false), told("fc00::/8", 6, true)}},
		{6, "00000005 40 08 fd", []api.Reach{told("fd00::/8", 5, false)}},
		{6, "00000005 ff 08 fd 01 00", []api.Reach{told("fd00::/8", 5, true)}},
		// Bits behind the length.
		{4, "00000005 01 ff", []api.Reach{told("128.0.0.0/1", 5, false)}},
		{4, "00000005 0f ffff", []api.Reach{told("255.254.0.0/15", 5, false)}},
		{4, "00000005 19 0a0101ff", []api.Reach{told("10.1.1.128/25", 5, false)}},
		{4, "00000005 9f ffffffff", []api.Reach{told("255.255.255.254/31", 5, true)}},
		{6, "00000005 00 03 ff", []api.Reach{told("e000::/3", 5, false)}},
		{6, "00000005 00 79 ffffffffffffffffffffffffffffffff", []api.Reach{told("ffff:ffff:ffff:ffff:ffff:ffff:ffff:ff80/121", 5, false)}},
	} {
		if list, e := reach.GetReach(c.fam, raw(c.p)); !slices.Equal(list, c.list) || e != api.OK {
			t.Errorf("GetReach(%d, %s) = %v, %d; want %v", c.fam, c.p, list, e, c.list)
		}
	}
}

func TestPutReachErrors(t *testing.T) {
	good4, good6 := told("10.0.0.0/8", 1, false), told("fd00::/8", 1, false)
	notInForm := good4
	notInForm.Prefix.Addr[1] = 1
	behind := good4
	behind.Prefix.Addr[4] = 1
	long4, long6 := good4, good6
	long4.Prefix.Len, long6.Prefix.Len = 33, 129
	below := good4
	below.Prefix.Len = -1
	for _, c := range []struct {
		fam  byte
		list []api.Reach
		e    api.Errno
	}{
		{0, nil, api.ErrArg},
		{1, nil, api.ErrArg},
		{3, nil, api.ErrArg},
		{5, nil, api.ErrArg},
		{7, nil, api.ErrArg},
		{255, []api.Reach{good4}, api.ErrArg},
		{2, slices.Repeat([]api.Reach{notInForm}, 12), api.ErrArg},
		{4, slices.Repeat([]api.Reach{good4}, 11), api.OK},
		{6, slices.Repeat([]api.Reach{told("::1/128", 1, true)}, 11), api.OK},
		{4, slices.Repeat([]api.Reach{good4}, 12), api.ErrLong},
		{6, slices.Repeat([]api.Reach{good6}, 12), api.ErrLong},
		{6, slices.Repeat([]api.Reach{good6}, 3000), api.ErrLong},
		{4, slices.Repeat([]api.Reach{notInForm}, 12), api.ErrLong},
		{4, []api.Reach{notInForm}, api.ErrForm},
		{4, []api.Reach{behind}, api.ErrForm},
		{4, []api.Reach{long4}, api.ErrForm},
		{6, []api.Reach{long6}, api.ErrForm},
		{4, []api.Reach{below}, api.ErrForm},
		{4, []api.Reach{{}}, api.ErrForm},
		{6, []api.Reach{{}}, api.ErrForm},
		{4, []api.Reach{good6}, api.ErrForm},
		{6, []api.Reach{good4}, api.ErrForm},
		{6, []api.Reach{good6, good6, good4}, api.ErrForm},
		{4, append(slices.Repeat([]api.Reach{good4}, 10), notInForm), api.ErrForm},
		{4, append([]api.Reach{notInForm}, good4), api.ErrForm},
	} {
		if p, e := reach.PutReach(c.fam, c.list); e != c.e || e != api.OK && len(p) > 0 {
			t.Errorf("PutReach(%d, %v) = %x, %d; want %d", c.fam, c.list, p, e, c.e)
		}
	}
}

func TestGetReachErrors(t *testing.T) {
	for _, c := range []struct {
		fam   byte
		p     string
		whole map[int]bool // where a prefix ends
	}{
		{4, "00000005 50 0a01 02 aabb 00000006 80 00000007 20 01020304", map[int]bool{0: true, 10: true, 15: true, 24: true}},
		{6, "00000005 20 09 fd80 02 aabb 00000006 80 00", map[int]bool{0: true, 11: true, 17: true}},
	} {
		p := raw(c.p)
		for n := range len(p) + 1 {
			list, e := reach.GetReach(c.fam, p[:n])
			if c.whole[n] != (e == api.OK) || e != api.OK && (e != api.ErrForm || len(list) > 0) {
				t.Errorf("GetReach(%d, %x) = %v, %d", c.fam, p[:n], list, e)
			}
		}
	}
	much := strings.Repeat("00", 40)
	for _, c := range []struct {
		fam byte
		p   string
		e   api.Errno
	}{
		{0, "", api.ErrArg},
		{5, "", api.ErrArg},
		{7, "0000", api.ErrArg},
		{255, strings.Repeat("00", 256), api.ErrArg},
		{4, "00000005 20 00000000", api.OK},
		{4, "00000005 21", api.ErrForm},
		{4, "00000005 21 0000000000", api.ErrForm},
		{4, "00000005 a1 0000000000", api.ErrForm},
		{4, "00000005 3f 0000000000000000", api.ErrForm},
		{4, "00000005 7f 0000000000000000 00", api.ErrForm},
		{4, "00000005 08 0a 00000005 21 0000000000", api.ErrForm}, // the second one
		{6, "00000005 00 80 00000000000000000000000000000000", api.OK},
		{6, "00000005 00 81 0000000000000000000000000000000000", api.ErrForm},
		{6, "00000005 00 88 0000000000000000000000000000000000", api.ErrForm},
		{6, "00000005 00 ff" + much, api.ErrForm},
		{6, "00000005 00 81", api.ErrForm},
		{4, strings.Repeat("0000000000", 51), api.OK},
		{4, strings.Repeat("0000000000", 52), api.ErrLong},
		{4, strings.Repeat("00", 256), api.ErrLong},
		{6, strings.Repeat("000000000000", 42), api.OK},
		{6, strings.Repeat("00", 255), api.ErrForm},
		{6, strings.Repeat("00", 256), api.ErrLong},
		{6, strings.Repeat("000000000000", 43), api.ErrLong},
	} {
		if list, e := reach.GetReach(c.fam, raw(c.p)); e != c.e || e != api.OK && len(list) > 0 {
			t.Errorf("GetReach(%d, %s) = %v, %d; want %d", c.fam, c.p, list, e, c.e)
		}
	}
}

// someEdges and someReach answer lists that can be put.
func someEdges(r *rand.Rand) []api.Edge {
	list := make([]api.Edge, r.Intn(24))
	for i := range list {
		r.Read(list[i].To.Sys[:])
		list[i].To.Pseudo = byte(r.Uint32())
		list[i].Metric = r.Uint32() >> 8
	}
	return list
}

func someReach(r *rand.Rand, fam byte) []api.Reach {
	list := make([]api.Reach, r.Intn(12))
	for i := range list {
		bits := map[byte]int{4: 32, 6: 128}[fam]
		p := api.Prefix{Fam: fam, Len: r.Intn(bits + 1)}
		for bit := range p.Len {
			if r.Intn(2) > 0 {
				p.Addr[bit/8] |= 0x80 >> (bit % 8)
			}
		}
		list[i] = api.Reach{Prefix: p, Metric: r.Uint32() >> r.Intn(32), Down: r.Intn(2) > 0}
	}
	return list
}

func TestPutIsGotAgain(t *testing.T) {
	r := rand.New(rand.NewSource(5))
	for range 2000 {
		edges := someEdges(r)
		p, e := reach.PutEdges(edges)
		if got, f := reach.GetEdges(p); !slices.Equal(got, edges) || e != api.OK || f != api.OK {
			t.Fatal(edges, p, got, e, f)
		}
		for _, fam := range []byte{4, 6} {
			list := someReach(r, fam)
			p, e := reach.PutReach(fam, list)
			if got, f := reach.GetReach(fam, p); !slices.Equal(got, list) || e != api.OK || f != api.OK {
				t.Fatal(list, p, got, e, f)
			}
		}
	}
}

// Whatever the bytes are: nothing panics, and what is got can be put, is the same a second time, and is all in form.
func TestAnyBytes(t *testing.T) {
	r := rand.New(rand.NewSource(6))
	read := 0
	for range 50000 {
		p := make([]byte, r.Intn(60))
		for i := range p {
			if r.Intn(3) == 0 {
				p[i] = byte(r.Uint32()) >> r.Intn(8)
			}
		}
		reach.GetEdges(p)
		for _, fam := range []byte{4, 6} {
			list, e := reach.GetReach(fam, p)
			again, f := reach.GetReach(fam, p)
			if !slices.Equal(list, again) || e != f || e != api.OK && e != api.ErrForm {
				t.Fatal(fam, p, list, e, again, f)
			}
			if e == api.OK && len(list) < 12 {
				read++
				if _, e := reach.PutReach(fam, list); e != api.OK {
					t.Fatal(fam, p, list, e)
				}
			}
		}
	}
	if read < 1000 {
		t.Error("too little was read:", read)
	}
}

// What is handed in is neither changed nor kept, and no answer shares memory with another one.
func TestMemory(t *testing.T) {
	edges := []api.Edge{to(1, 2, 3), to(4, 5, 6)}
	list := []api.Reach{told("10.1.0.0/16", 5, true)}
	p, _ := reach.PutEdges(edges)
	q, _ := reach.PutReach(4, list)
	p2, _ := reach.PutEdges(edges)
	fill(p2)
	wantP, wantQ := bytes.Clone(p), bytes.Clone(q)
	edges[0], list[0] = api.Edge{}, api.Reach{}
	if !bytes.Equal(p, wantP) || !bytes.Equal(q, wantQ) {
		t.Error("an answer hangs on what was handed in")
	}
	spare := bytes.Repeat([]byte{0xee}, 40)
	in := append(spare[:0], p...)
	got, _ := reach.GetEdges(in)
	if !bytes.Equal(in, p) || !bytes.Equal(spare[len(p):], bytes.Repeat([]byte{0xee}, 40-len(p))) {
		t.Error("what was handed in has changed")
	}
	fill(in)
	if !slices.Equal(got, []api.Edge{to(1, 2, 3), to(4, 5, 6)}) {
		t.Error("the list hangs on the bytes")
	}
	in = append(spare[:0], q...)
	gotReach, _ := reach.GetReach(4, in)
	fill(in)
	if !slices.Equal(gotReach, []api.Reach{told("10.1.0.0/16", 5, true)}) {
		t.Error("the list hangs on the bytes")
	}
}

// fill writes over p and its spare room.
func fill(p []byte) {
	p = p[:cap(p)]
	for i := range p {
		p[i] = 0x99
	}
}
