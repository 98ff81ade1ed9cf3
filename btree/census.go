package btree

import "chandlery/api"

// census goes through all of a tree.
type census struct {
	keys   int
	leaves int
	deep   int // how deep all leaves so far lie
}

// span is where the Keys above say that keys lie: from low on, to below high, or to no end. Where all keys lie in theirs, they rise from leaf to leaf, too.
type span struct {
	low, high string
	isOpen    bool
}

func (c *census) count(read reader, page int, s span, deep int) api.Errno {
	n, e := read(page)
	if e != api.OK {
		return e
	}
	if n.Leaf {
		return c.countLeaf(n, s, deep)
	}
	for k, child := range n.Children {
		if e := c.count(read, child, s.under(n, k), deep+1); e != api.OK {
			return e
		}
	}
	return api.OK
}

func (c *census) countLeaf(n api.Node, s span, deep int) api.Errno {
	if c.leaves > 0 && deep != c.deep {
		return api.ErrForm
	}
	for _, p := range n.Pairs {
		if !s.has(p.Key) {
			return api.ErrForm
		}
	}
	c.keys += len(n.Pairs)
	c.leaves++
	c.deep = deep
	return api.OK
}

// under is the span of a node's Child. It is never wider than the node's own, wherever the node's Keys lie.
func (s span) under(n api.Node, child int) span {
	if child > 0 {
		s.low = max(s.low, n.Keys[child-1])
	}
	if child < len(n.Keys) && (s.isOpen || n.Keys[child] < s.high) {
		s.high, s.isOpen = n.Keys[child], false
	}
	return s
}

func (s span) has(key string) bool {
	return key >= s.low && (s.isOpen || key < s.high)
}
