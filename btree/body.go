package btree

import (
	"slices"

	"chandlery/api"
	"chandlery/node"
)

func bodyOf(n api.Node) *body {
	b := &body{isLeaf: n.Leaf, was: node.Size(n), pairs: n.Pairs}
	for k, child := range n.Children {
		x := branch{page: child}
		if k > 0 {
			x.low = n.Keys[k-1]
		}
		b.below = append(b.below, x)
	}
	return b
}

// node is what is to be written. A page that is not taken yet counts as any other, as far as sizes go.
func (b *body) node() api.Node {
	n := api.Node{Leaf: b.isLeaf, Pairs: b.pairs}
	for k, x := range b.below {
		if k > 0 {
			n.Keys = append(n.Keys, x.low)
		}
		n.Children = append(n.Children, max(x.page, 1))
	}
	return n
}

func (b *body) isEmpty() bool { return len(b.pairs)+len(b.below) == 0 }

func (b *body) leaveOut(place int) {
	b.below = slices.Delete(b.below, place, place+1)
	b.isNew = true
}

// cut makes two of a branch that has too much for a page. It is too much by one pair or Key at most, and a page has room for four of these at least: so both halves fit, and neither has nothing.
func (b *body) cut(place int) {
	x := &b.below[place]
	right := branch{body: &body{isLeaf: x.body.isLeaf, isNew: true}}
	if pairs := x.body.pairs; x.body.isLeaf {
		k := middle(pairs, func(p api.Pair) int { return 2 + len(p.Key) + len(p.Value) })
		right.low = pairs[k].Key
		x.body.pairs, right.body.pairs = pairs[:k], pairs[k:]
	} else {
		below := x.body.below
		k := middle(below, func(y branch) int { return 4 + len(y.low) })
		right.low = below[k].low
		x.body.below, right.body.below = below[:k], below[k:]
	}
	b.below = slices.Insert(b.below, place+1, right)
	b.isNew = true
}

// middle is the place behind the element with which half of all their sizes is reached.
func middle[T any](l []T, size func(T) int) int {
	all := 0
	for _, x := range l {
		all += size(x)
	}
	k := 0
	for sum := 0; 2*sum < all; k++ {
		sum += size(l[k])
	}
	return k
}

// joined is no node that may be, if these two are not of one kind.
func joined(left, right *body, low string) *body {
	below := slices.Concat(left.below, right.below)
	if len(right.below) > 0 {
		below[len(left.below)].low = low
	}
	return &body{isLeaf: left.isLeaf, isNew: true, pairs: slices.Concat(left.pairs, right.pairs), below: below}
}
