package trie_test

import (
	"math"
	"math/rand"
	"slices"
	"testing"

	"waymark/api"
	"waymark/prefix"
	"waymark/trie"
)

// notInForm: each of these is refused wherever a prefix is handed in.
var notInForm = []api.Prefix{
	{}, {Fam: 5}, {Fam: 0, Len: 8}, {Fam: 255, Len: 8}, {Fam: 4, Len: -1}, {Fam: 4, Len: 33}, {Fam: 4, Len: 128}, {Fam: 6, Len: -1}, {Fam: 6, Len: 129},
	{Fam: 4, Len: math.MaxInt}, {Fam: 6, Len: math.MinInt},
	{Fam: 4, Len: 8, Addr: [16]byte{10, 1}}, {Fam: 4, Len: 32, Addr: [16]byte{4: 1}}, {Fam: 4, Len: 32, Addr: [16]byte{15: 1}}, {Fam: 6, Len: 127, Addr: [16]byte{15: 1}},
}

// pfx answers the prefix of which text is the text.
func pfx(text string) api.Prefix {
	p, e := prefix.Parse(text)
	if e != api.OK {
		panic(text)
	}
	return p
}

// address answers the address of which text is the text, with all its bits.
func address(text string) [16]byte {
	bits := "/32"
	if slices.Contains([]byte(text), ':') {
		bits = "/128"
	}
	return pfx(text + bits).Addr
}

// filled answers a trie in which each text's place stands under its prefix.
func filled(t *testing.T, texts ...string) *trie.Trie {
	t.Helper()
	x := trie.New()
	for i, text := range texts {
		if e := x.Insert(pfx(text), i); e != api.OK {
			t.Fatalf("Insert(%s) = %d", text, e)
		}
	}
	return x
}

// gets looks at what Get answers.
func gets(t *testing.T, x *trie.Trie, text string, v int, ok bool) {
	t.Helper()
	if n, found, e := x.Get(pfx(text)); n != v || found != ok || e != api.OK {
		t.Errorf("Get(%s) = %d, %v, %d; want %d, %v", text, n, found, e, v, ok)
	}
}

// finds looks at what Find answers for an address.
func finds(t *testing.T, x *trie.Trie, addr, text string, v int) {
	t.Helper()
	fam := pfx(text).Fam
	if p, n, ok, e := x.Find(fam, address(addr)); p != pfx(text) || n != v || !ok || e != api.OK {
		t.Errorf("Find(%d, %s) = %v, %d, %v, %d; want %s, %d", fam, addr, p, n, ok, e, text, v)
	}
}

// misses looks whether Find answers that there is none.
func misses(t *testing.T, x *trie.Trie, fam byte, addr [16]byte) {
	t.Helper()
	if p, n, ok, e := x.Find(fam, addr); p != (api.Prefix{}) || n != 0 || ok || e != api.OK {
		t.Errorf("Find(%d, %v) = %v, %d, %v, %d", fam, addr, p, n, ok, e)
	}
}

// has looks at which prefixes there are.
func has(t *testing.T, x *trie.Trie, texts ...string) {
	t.Helper()
	var want []api.Prefix
	for _, text := range texts {
		want = append(want, pfx(text))
	}
	if list := x.List(); !slices.Equal(list, want) || x.Len() != len(want) {
		t.Errorf("List() = %v, Len() = %d; want %v", list, x.Len(), texts)
	}
}

// P17.1 and P17.2, the chapter's examples.

func TestExamples(t *testing.T) {
	x := trie.New()
	if e := x.Insert(pfx("10.0.0.0/8"), 1); e != api.OK {
		t.Fatal(e)
	}
	if e := x.Insert(pfx("10.1.0.0/16"), 2); e != api.OK {
		t.Fatal(e)
	}
	finds(t, x, "10.1.2.3", "10.1.0.0/16", 2)
	finds(t, x, "10.2.0.0", "10.0.0.0/8", 1)
	misses(t, x, 4, address("11.0.0.0"))
	if e := x.Remove(pfx("10.1.0.0/16")); e != api.OK {
		t.Fatal(e)
	}
	finds(t, x, "10.1.2.3", "10.0.0.0/8", 1)
	if _, _, _, e := x.Find(5, [16]byte{}); e != api.ErrArg {
		t.Error(e)
	}
}

// P17.1

func TestInsertInThePlace(t *testing.T) {
	x := trie.New()
	for _, v := range []int{1, 2, 0, -1, math.MinInt, math.MaxInt, 7, 7} {
		if e := x.Insert(pfx("10.0.0.0/8"), v); e != api.OK {
			t.Fatal(e)
		}
		gets(t, x, "10.0.0.0/8", v, true)
		finds(t, x, "10.0.0.1", "10.0.0.0/8", v)
		has(t, x, "10.0.0.0/8")
	}
}

func TestGetOfNothing(t *testing.T) {
	gets(t, trie.New(), "0.0.0.0/0", 0, false)
	gets(t, trie.New(), "::/128", 0, false)
	// A longer one, a shorter one, and one beside are not just that; where two ways part nothing stands.
	x := filled(t, "0.0.0.0/32", "10.0.0.0/16", "10.1.0.0/16", "2001:db8::/32", "2001:db9::/32")
	for _, text := range []string{"0.0.0.0/0", "0.0.0.0/4", "0.0.0.0/31", "10.0.0.0/8", "10.0.0.0/15", "10.0.0.0/17", "10.2.0.0/16", "10.0.0.0/32", "::/0", "::/128", "a00::/16", "2001:db8::/31", "2001:db8::/33"} {
		gets(t, x, text, 0, false)
		if e := x.Remove(pfx(text)); e != api.ErrNone {
			t.Errorf("Remove(%s) = %d", text, e)
		}
	}
	gets(t, x, "10.1.0.0/16", 2, true)
	has(t, x, "0.0.0.0/32", "10.0.0.0/16", "10.1.0.0/16", "2001:db8::/32", "2001:db9::/32")
}

// Where two ways parted, something can be put, and taken away again.
func TestInsertWhereWaysPart(t *testing.T) {
	x := filled(t, "10.0.0.0/16", "10.1.0.0/16")
	if e := x.Insert(pfx("10.0.0.0/15"), 9); e != api.OK {
		t.Fatal(e)
	}
	has(t, x, "10.0.0.0/15", "10.0.0.0/16", "10.1.0.0/16")
	finds(t, x, "10.0.0.1", "10.0.0.0/16", 0)
	gets(t, x, "10.0.0.0/15", 9, true)
	if e := x.Remove(pfx("10.0.0.0/15")); e != api.OK {
		t.Fatal(e)
	}
	has(t, x, "10.0.0.0/16", "10.1.0.0/16")
	gets(t, x, "10.0.0.0/15", 0, false)
	gets(t, x, "10.0.0.0/16", 0, true)
	gets(t, x, "10.1.0.0/16", 1, true)
}

// In whichever order they come and go: each stands under just its own prefix.
func TestInsertAndRemoveInAllOrders(t *testing.T) {
	texts := []string{"0.0.0.0/0", "10.0.0.0/8", "10.0.0.0/16", "10.1.0.0/16", "128.0.0.0/1"}
	orders(len(texts), func(order []int) {
		x := trie.New()
		for _, i := range order {
			if e := x.Insert(pfx(texts[i]), i); e != api.OK {
				t.Fatal(e)
			}
		}
		has(t, x, texts...)
		for _, i := range []int{2, 0, 4, 1, 3} {
			gets(t, x, texts[order[i]], order[i], true)
			if e := x.Remove(pfx(texts[order[i]])); e != api.OK {
				t.Fatal(e)
			}
			gets(t, x, texts[order[i]], 0, false)
		}
		has(t, x)
	})
}

// orders calls each with all orders of the numbers below count.
func orders(count int, each func([]int)) {
	var further func(order []int)
	further = func(order []int) {
		if len(order) == count {
			each(order)
			return
		}
		for i := range count {
			if !slices.Contains(order, i) {
				further(append(slices.Clone(order), i))
			}
		}
	}
	further(nil)
}

func TestRemove(t *testing.T) {
	x := filled(t, "10.0.0.0/8", "10.0.0.0/9", "10.0.0.0/10")
	if e := x.Remove(pfx("10.0.0.0/9")); e != api.OK {
		t.Fatal(e)
	}
	has(t, x, "10.0.0.0/8", "10.0.0.0/10")
	if e := x.Remove(pfx("10.0.0.0/9")); e != api.ErrNone {
		t.Errorf("a second time: %d", e)
	}
	has(t, x, "10.0.0.0/8", "10.0.0.0/10")
	// What comes back is not what was there.
	if e := x.Insert(pfx("10.0.0.0/9"), 5); e != api.OK {
		t.Fatal(e)
	}
	gets(t, x, "10.0.0.0/9", 5, true)
	has(t, x, "10.0.0.0/8", "10.0.0.0/9", "10.0.0.0/10")
	if e := trie.New().Remove(pfx("::/0")); e != api.ErrNone {
		t.Error(e)
	}
}

// Equal bits of two families are two prefixes.
func TestFamilies(t *testing.T) {
	x := filled(t, "0.0.0.0/0", "::/0", "10.0.0.0/8", "a00::/8", "10.0.0.0/32", "a00::/32")
	has(t, x, "0.0.0.0/0", "10.0.0.0/8", "10.0.0.0/32", "::/0", "a00::/8", "a00::/32")
	for i, text := range []string{"0.0.0.0/0", "::/0", "10.0.0.0/8", "a00::/8", "10.0.0.0/32", "a00::/32"} {
		gets(t, x, text, i, true)
	}
	finds(t, x, "10.0.0.0", "10.0.0.0/32", 4)
	finds(t, x, "a00::", "a00::/32", 5)
	for _, text := range []string{"::/0", "a00::/8", "a00::/32"} {
		if e := x.Remove(pfx(text)); e != api.OK {
			t.Fatal(e)
		}
	}
	has(t, x, "0.0.0.0/0", "10.0.0.0/8", "10.0.0.0/32")
	misses(t, x, 6, address("a00::"))
	misses(t, filled(t, "::/0"), 4, [16]byte{})
	misses(t, filled(t, "0.0.0.0/0"), 6, [16]byte{})
}

// Two tries don't know of one another.
func TestTwoTries(t *testing.T) {
	a, b := filled(t, "10.0.0.0/8"), filled(t, "11.0.0.0/8", "10.0.0.0/8")
	gets(t, a, "10.0.0.0/8", 0, true)
	gets(t, b, "10.0.0.0/8", 1, true)
	if e := a.Remove(pfx("10.0.0.0/8")); e != api.OK {
		t.Fatal(e)
	}
	has(t, a)
	has(t, b, "10.0.0.0/8", "11.0.0.0/8")
}

// P17.2

// One prefix of each length; of an address that leaves their way behind a bit the prefix of that many bits is found.
func TestFindEachLength(t *testing.T) {
	for fam, bits := range map[byte]int{4: 32, 6: 128} {
		full := api.Prefix{Fam: fam, Len: bits}
		for i := range bits / 8 {
			full.Addr[i] = 0xa5
		}
		x := trie.New()
		for _, n := range rand.New(rand.NewSource(1)).Perm(bits + 1) {
			p, _ := prefix.Cut(full, n)
			if e := x.Insert(p, 1000+n); e != api.OK {
				t.Fatal(e)
			}
		}
		for n := range bits + 1 {
			addr := full.Addr
			if n < bits {
				addr[n/8] ^= 0x80 >> (n % 8)
			}
			want, _ := prefix.Cut(full, n)
			if p, v, ok, e := x.Find(fam, addr); p != want || v != 1000+n || !ok || e != api.OK {
				t.Errorf("Find(%d, %v) = %v, %d, %v, %d; want %v", fam, addr, p, v, ok, e, want)
			}
		}
		// From the longest on they go; then the next shorter one is found.
		for n := bits; n >= 0; n-- {
			p, _ := prefix.Cut(full, n)
			if e := x.Remove(p); e != api.OK || x.Len() != n {
				t.Fatal(e, x.Len())
			}
			if _, v, ok, e := x.Find(fam, full.Addr); ok != (n > 0) || ok && v != 999+n || e != api.OK {
				t.Fatal(n, v, ok, e)
			}
		}
	}
}

// Of IPv4 the first four bytes count, whatever stands behind them.
func TestFindBehindFourBytes(t *testing.T) {
	x := filled(t, "10.1.2.3/32", "10.1.2.0/24", "0.0.0.0/0")
	for i := 4; i < 16; i++ {
		addr := [16]byte{10, 1, 2, 3}
		addr[i] = 0xff
		if p, v, ok, e := x.Find(4, addr); p != pfx("10.1.2.3/32") || v != 0 || !ok || e != api.OK {
			t.Errorf("Find(4, %v) = %v, %d, %v, %d", addr, p, v, ok, e)
		}
		addr[3] = 4
		if p, v, ok, e := x.Find(4, addr); p != pfx("10.1.2.0/24") || v != 1 || !ok || e != api.OK {
			t.Errorf("Find(4, %v) = %v, %d, %v, %d", addr, p, v, ok, e)
		}
	}
	// Of IPv6 all do.
	misses(t, filled(t, "a01:203::/128"), 6, [16]byte{10, 1, 2, 3, 15: 1})
	finds(t, filled(t, "a01:203::/128", "a01:203::/127"), "a01:203::1", "a01:203::/127", 1)
}

func TestFindNothing(t *testing.T) {
	misses(t, trie.New(), 4, [16]byte{})
	misses(t, trie.New(), 6, [16]byte{255})
	x := filled(t, "10.0.0.0/16", "10.1.0.0/16", "::1/128", "::2/128")
	misses(t, x, 4, address("10.2.0.0"))
	misses(t, x, 4, address("10.3.0.0"))
	misses(t, x, 4, address("0.0.0.0"))
	misses(t, x, 6, address("::"))
	misses(t, x, 6, address("::3"))
}

func TestFindFamilies(t *testing.T) {
	x := filled(t, "0.0.0.0/0", "::/0")
	for fam := range 256 {
		p, v, ok, e := x.Find(byte(fam), [16]byte{10})
		switch fam {
		case 4:
			if p != pfx("0.0.0.0/0") || v != 0 || !ok || e != api.OK {
				t.Error(p, v, ok, e)
			}
		case 6:
			if p != pfx("::/0") || v != 1 || !ok || e != api.OK {
				t.Error(p, v, ok, e)
			}
		default:
			if p != (api.Prefix{}) || v != 0 || ok || e != api.ErrArg {
				t.Errorf("Find(%d) = %v, %d, %v, %d", fam, p, v, ok, e)
			}
		}
	}
}

func TestListOrder(t *testing.T) {
	texts := []string{
		"0.0.0.0/0", "0.0.0.0/1", "0.0.0.0/32", "0.0.0.1/32", "9.0.0.0/8", "10.0.0.0/8", "10.0.0.0/9", "10.0.0.0/32", "10.128.0.0/9", "127.0.0.0/8", "128.0.0.0/1", "255.255.255.255/32",
		"::/0", "::/128", "::1/128", "a00::/8", "2001:db8::/32", "2001:db8::/33", "8000::/1", "ffff::/16",
	}
	r := rand.New(rand.NewSource(2))
	for range 100 {
		order := slices.Clone(texts)
		r.Shuffle(len(order), func(i, k int) { order[i], order[k] = order[k], order[i] })
		has(t, filled(t, order...), texts...)
	}
	has(t, trie.New())
}

func TestListIsNew(t *testing.T) {
	x := filled(t, "10.0.0.0/8", "10.0.0.0/9", "::/0")
	a, b := x.List(), x.List()
	a = a[:cap(a)]
	for i := range a {
		a[i] = api.Prefix{Fam: 77}
	}
	if !slices.Equal(b, []api.Prefix{pfx("10.0.0.0/8"), pfx("10.0.0.0/9"), pfx("::/0")}) {
		t.Error("two answers share memory", b)
	}
	has(t, x, "10.0.0.0/8", "10.0.0.0/9", "::/0")
	// What comes later isn't in an earlier answer.
	if e := x.Insert(pfx("0.0.0.0/0"), 1); e != api.OK {
		t.Fatal(e)
	}
	if !slices.Equal(b, []api.Prefix{pfx("10.0.0.0/8"), pfx("10.0.0.0/9"), pfx("::/0")}) {
		t.Error("an answer has changed", b)
	}
}

// Errors

func TestNotInForm(t *testing.T) {
	x := filled(t, "0.0.0.0/0", "10.0.0.0/8", "::/0")
	for _, p := range notInForm {
		if e := x.Insert(p, 1); e != api.ErrForm {
			t.Errorf("Insert(%v) = %d", p, e)
		}
		if e := x.Remove(p); e != api.ErrForm {
			t.Errorf("Remove(%v) = %d", p, e)
		}
		if v, ok, e := x.Get(p); v != 0 || ok || e != api.ErrForm {
			t.Errorf("Get(%v) = %d, %v, %d", p, v, ok, e)
		}
	}
	has(t, x, "0.0.0.0/0", "10.0.0.0/8", "::/0")
}

func TestNil(t *testing.T) {
	var x *trie.Trie
	p := pfx("10.0.0.0/8")
	if e := x.Insert(p, 1); e != api.ErrNone {
		t.Error(e)
	}
	if e := x.Remove(p); e != api.ErrNone {
		t.Error(e)
	}
	if v, ok, e := x.Get(p); v != 0 || ok || e != api.ErrNone {
		t.Error(v, ok, e)
	}
	for fam, want := range map[byte]api.Errno{4: api.ErrNone, 6: api.ErrNone, 0: api.ErrArg, 5: api.ErrArg, 255: api.ErrArg} {
		if q, v, ok, e := x.Find(fam, [16]byte{10}); q != (api.Prefix{}) || v != 0 || ok || e != want {
			t.Error(fam, q, v, ok, e)
		}
	}
	for _, p := range notInForm {
		_, _, e := x.Get(p)
		if f, g := x.Insert(p, 1), x.Remove(p); e != api.ErrForm || f != api.ErrForm || g != api.ErrForm {
			t.Error(p, e, f, g)
		}
	}
	has(t, x)
}

// The model: the chapter's words, by going through all prefixes.

type model map[api.Prefix]int

// find answers the longest prefix that covers all bits of the address.
func (m model) find(fam byte, addr [16]byte) (best api.Prefix, v int, ok bool) {
	bits := map[byte]int{4: 32, 6: 128}[fam]
	for p, n := range m {
		cut, _ := prefix.Cut(api.Prefix{Fam: fam, Len: bits, Addr: addr}, min(p.Len, bits))
		if cut == p && (!ok || p.Len > best.Len) {
			best, v, ok = p, n, true
		}
	}
	return best, v, ok
}

// list answers all prefixes in order.
func (m model) list() []api.Prefix {
	var list []api.Prefix
	for p := range m {
		list = append(list, p)
	}
	slices.SortFunc(list, func(p, q api.Prefix) int {
		order, _ := prefix.Cmp(p, q)
		return order
	})
	return list
}

// some answers a prefix out of few, so that many meet; narrow: they go by one way.
func some(r *rand.Rand, narrow bool) api.Prefix {
	p := api.Prefix{Fam: 4, Len: 32}
	if r.Intn(2) == 0 {
		p = api.Prefix{Fam: 6, Len: 128}
	}
	for i := range p.Len / 8 {
		if !narrow || r.Intn(40) == 0 {
			p.Addr[i] = []byte{0, 1, 0x80, 0xff}[r.Intn(4)]
		}
	}
	n := r.Intn(p.Len + 1)
	if r.Intn(2) == 0 {
		n = min(n, 6)
	}
	p, _ = prefix.Cut(p, n)
	return p
}

func TestAgainstModel(t *testing.T) {
	for seed := range 200 {
		r := rand.New(rand.NewSource(int64(seed)))
		x, m := trie.New(), model{}
		narrow := seed%2 == 0
		for step := range 300 {
			p := some(r, narrow)
			if list := m.list(); len(list) > 0 && r.Intn(3) == 0 {
				p = list[r.Intn(len(list))]
			}
			was, known := m[p]
			if r.Intn(5) < 2 {
				want := api.ErrNone
				if known {
					want = api.OK
				}
				if e := x.Remove(p); e != want {
					t.Fatalf("seed %d: Remove(%v) = %d", seed, p, e)
				}
				delete(m, p)
			} else {
				if v, ok, e := x.Get(p); v != was || ok != known || e != api.OK {
					t.Fatalf("seed %d: Get(%v) = %d, %v, %d; want %d, %v", seed, p, v, ok, e, was, known)
				}
				if e := x.Insert(p, step-9); e != api.OK {
					t.Fatalf("seed %d: Insert(%v) = %d", seed, p, e)
				}
				m[p] = step - 9
			}
			q := some(r, narrow)
			want, n, found := m.find(q.Fam, q.Addr)
			if p, v, ok, e := x.Find(q.Fam, q.Addr); p != want || v != n || ok != found || e != api.OK {
				t.Fatalf("seed %d: Find(%v) = %v, %d, %v, %d; want %v, %d, %v", seed, q, p, v, ok, e, want, n, found)
			}
			if list := x.List(); !slices.Equal(list, m.list()) || x.Len() != len(m) {
				t.Fatalf("seed %d: List() = %v, Len() = %d; want %v", seed, list, x.Len(), m.list())
			}
		}
	}
}

func TestMuch(t *testing.T) {
	const count = 200000
	x := trie.New()
	each := func(do func(p api.Prefix, i int)) {
		for i := range count {
			// No two are alike: the count stands in their last bits.
			p := api.Prefix{Fam: 6, Len: 128, Addr: [16]byte{byte(i * 7), byte(i * 31), 13: byte(i >> 16), 14: byte(i >> 8), 15: byte(i)}}
			do(p, i)
		}
	}
	each(func(p api.Prefix, i int) {
		if e := x.Insert(p, i); e != api.OK {
			t.Fatal(e)
		}
	})
	if x.Len() != count || len(x.List()) != count {
		t.Fatal(x.Len())
	}
	each(func(p api.Prefix, i int) {
		if q, v, ok, e := x.Find(6, p.Addr); q != p || v != i || !ok || e != api.OK {
			t.Fatal(p, q, v, ok, e)
		}
		if e := x.Remove(p); e != api.OK {
			t.Fatal(e)
		}
	})
	has(t, x)
}
