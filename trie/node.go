package trie

import (
	"math/bits"

	"waymark/api"
	"waymark/prefix"
)

// node stands for a prefix that all nodes below it begin with. Nothing stands under it itself only where two ways part, so that there are never twice as many nodes as prefixes.
type node struct {
	prefix api.Prefix
	holds  bool
	number int
	below  [2]*node // by the bit behind the prefix
}

// with answers what n becomes when v stands under p.
func (n *node) with(p api.Prefix, v int) *node {
	switch {
	case n == nil:
		return &node{prefix: p, holds: true, number: v}
	case n.prefix == p:
		n.holds, n.number = true, v
		return n
	case !n.covers(p):
		return n.fork(p).with(p, v)
	}
	side := n.side(p)
	n.below[side] = n.below[side].with(p, v)
	return n
}

// fork answers a node above n, for all bits with which both n's prefix and p begin; n's prefix doesn't cover p.
func (n *node) fork(p api.Prefix) *node {
	joint, _ := prefix.Cut(p, same(n.prefix, p))
	above := &node{prefix: joint}
	above.below[above.side(n.prefix)] = n
	return above
}

// without answers what n becomes when nothing stands under p any more; something does.
func (n *node) without(p api.Prefix) *node {
	if n.prefix == p {
		n.holds, n.number = false, 0
	} else {
		side := n.side(p)
		n.below[side] = n.below[side].without(p)
	}
	switch {
	case n.holds:
		return n
	case n.below[0] == nil:
		return n.below[1]
	case n.below[1] == nil:
		return n.below[0]
	}
	return n
}

// longest answers the node of the longest prefix that covers p and under which something stands; nil: there is none.
func (n *node) longest(p api.Prefix) *node {
	var found *node
	for n != nil && n.covers(p) {
		if n.holds {
			found = n
		}
		// Behind the last bit of p there is none to go by.
		if n.prefix.Len == p.Len {
			break
		}
		n = n.below[n.side(p)]
	}
	return found
}

// list appends the prefixes from n on under which something stands, in order: the shorter ahead of the longer, nought ahead of one.
func (n *node) list(found []api.Prefix) []api.Prefix {
	if n == nil {
		return found
	}
	if n.holds {
		found = append(found, n.prefix)
	}
	return n.below[1].list(n.below[0].list(found))
}

// covers tells whether n's prefix covers p; they are of one family.
func (n *node) covers(p api.Prefix) bool {
	return same(n.prefix, p) == n.prefix.Len
}

// side answers the bit of p behind n's prefix; p is longer than that.
func (n *node) side(p api.Prefix) byte {
	at := n.prefix.Len
	return p.Addr[at/8] >> (7 - at%8) & 1
}

// same answers how many bits both prefixes begin with.
func same(p, q api.Prefix) int {
	most := min(p.Len, q.Len)
	for i, b := range p.Addr {
		if unlike := b ^ q.Addr[i]; unlike != 0 {
			return min(most, 8*i+bits.LeadingZeros8(unlike))
		}
	}
	return most
}
