package trie

import (
	"math/rand"
	"testing"

	"waymark/api"
	"waymark/prefix"
)

// nodes counts the nodes from n on, and looks whether each of them is needed.
func nodes(t *testing.T, n *node) int {
	if n == nil {
		return 0
	}
	if !n.holds && (n.below[0] == nil || n.below[1] == nil || n.number != 0) {
		t.Fatalf("a node that nobody needs: %v", *n)
	}
	return 1 + nodes(t, n.below[0]) + nodes(t, n.below[1])
}

// What is taken away leaves nothing behind.
func TestNoMoreIsKept(t *testing.T) {
	r := rand.New(rand.NewSource(1))
	x := New()
	for range 5000 {
		p := api.Prefix{Fam: 4, Len: 32, Addr: [16]byte{byte(r.Intn(256)), byte(r.Intn(2))}}
		if r.Intn(2) == 0 {
			p.Fam, p.Len = 6, 128
		}
		p, _ = prefix.Cut(p, r.Intn(20))
		if r.Intn(2) == 0 {
			x.Insert(p, r.Int())
		} else {
			x.Remove(p)
		}
		if count := nodes(t, x.roots[0]) + nodes(t, x.roots[1]); count > 2*x.Len() {
			t.Fatalf("%d nodes for %d prefixes", count, x.Len())
		}
	}
	for _, p := range x.List() {
		x.Remove(p)
	}
	if x.roots != [2]*node{} || x.Len() != 0 {
		t.Fatal("something is left")
	}
}
