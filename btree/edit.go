package btree

import (
	"chandlery/api"
	"chandlery/node"
	"chandlery/pages"
)

// plan is a change of a tree that is thought out whole ahead of the first page that is written: so a call that fails changes nothing.
type plan struct {
	tx     *pages.Tx
	read   reader
	taken  []int
	spare  []int // pages that are needed no more
	writes []write
}

type write struct {
	page  int
	bytes []byte
}

// branch is a page of the tree as it is to be, with all below it that was read.
type branch struct {
	page int    // 0: none yet
	low  string // the Key ahead of it, which the first one of a node has not
	body *body  // nil, till it is read
}

// body is a node whose Children are branches.
type body struct {
	isLeaf bool
	isNew  bool // the page does not have it yet
	was    int  // the size of the node that the page has
	pairs  []api.Pair
	below  []branch
}

// edit lets do change the leaf under which key stands, and puts right what stands around and above it, if do says that it did.
func edit(t *pages.Tx, key string, do func(leaf *api.Node) bool) api.Errno {
	x, e := open(t)
	if e != api.OK {
		return e
	}
	p := &plan{tx: t, read: x.visit}
	root, e := p.think(x.root, key, do)
	if e != api.OK {
		p.undo()
		return e
	}
	return p.carryOut(x.root, root)
}

// think answers the page that is to be the root's. A node above the root lets it be cut and left out as any other, and is the root itself, if it has two below it then.
func (p *plan) think(page int, key string, do func(leaf *api.Node) bool) (int, api.Errno) {
	root := &branch{body: &body{below: []branch{{page: page}}}}
	if page == 0 {
		root.body.below[0].body = &body{isLeaf: true}
	}
	if e := p.turn(root, key, do); e != api.OK {
		return 0, e
	}
	for len(root.body.below) == 1 {
		p.free(root.page)
		root = &root.body.below[0]
		if e := p.load(root); e != api.OK {
			return 0, e
		}
	}
	if root.body.isEmpty() {
		p.free(root.page)
		return 0, api.OK
	}
	e := p.lay(root)
	return root.page, e
}

// turn changes what is below a branch; the branch itself may have too much or nothing then.
func (p *plan) turn(x *branch, key string, do func(leaf *api.Node) bool) api.Errno {
	if e := p.load(x); e != api.OK {
		return e
	}
	n := x.body.node()
	if n.Leaf {
		x.body.isNew = do(&n)
		x.body.pairs = n.Pairs
		return api.OK
	}
	place, _ := node.Place(n, key)
	if e := p.turn(&x.body.below[place], key, do); e != api.OK {
		return e
	}
	return p.settle(x.body, place)
}

// load reads what is not read yet.
func (p *plan) load(x *branch) api.Errno {
	if x.body != nil {
		return api.OK
	}
	n, e := p.read(x.page)
	if e != api.OK {
		return e
	}
	x.body = bodyOf(n)
	return api.OK
}

// settle leaves a branch out that has nothing, cuts one that has too much, and joins what has room in one page now and had none ahead.
func (p *plan) settle(b *body, place int) api.Errno {
	x := b.below[place]
	if x.body.isEmpty() {
		p.free(x.page)
		b.leaveOut(place) // those beside it had no room for one pair or Child more, so they have none for each other
		return api.OK
	}
	if !x.body.isNew {
		return api.OK
	}
	size := node.Size(x.body.node())
	if size > p.tx.Bytes() {
		b.cut(place)
		return p.joinBoth(b, place+2, place)
	}
	if size < x.body.was {
		return p.joinBoth(b, place+1, place)
	}
	return api.OK
}

// joinBoth begins with the later place, so that the other one stays what it is.
func (p *plan) joinBoth(b *body, later, place int) api.Errno {
	if e := p.join(b, later); e != api.OK {
		return e
	}
	return p.join(b, place)
}

// join makes one of a branch and the one ahead of it, if there are both and a page has room for them; and so of those below that stand beside one another only then.
func (p *plan) join(b *body, place int) api.Errno {
	if place < 1 || place >= len(b.below) {
		return api.OK
	}
	left, right := &b.below[place-1], &b.below[place]
	if e := p.load(left); e != api.OK {
		return e
	}
	if e := p.load(right); e != api.OK {
		return e
	}
	seam := len(left.body.below)
	both := joined(left.body, right.body, right.low)
	if node.Check(both.node(), p.tx.Bytes()) != api.OK {
		return api.OK
	}
	p.free(right.page)
	left.body = both
	b.leaveOut(place)
	return p.join(both, seam)
}

// lay gives pages to those that have none, from below on, and keeps in mind what is to be written.
func (p *plan) lay(x *branch) api.Errno {
	if x.body == nil {
		return api.OK
	}
	for k := range x.body.below {
		if e := p.lay(&x.body.below[k]); e != api.OK {
			return e
		}
	}
	if !x.body.isNew {
		return api.OK
	}
	if x.page == 0 {
		page, e := p.take()
		if e != api.OK {
			return e
		}
		x.page = page
	}
	b, e := node.Bytes(x.body.node(), p.tx.Bytes())
	if e != api.OK { // a Key that came from below does not lie where those here say
		return api.ErrForm
	}
	p.writes = append(p.writes, write{x.page, b})
	return api.OK
}

// take uses what is spare first: what needs no page more must not fail where all are used.
func (p *plan) take() (int, api.Errno) {
	if last := len(p.spare) - 1; last >= 0 {
		page := p.spare[last]
		p.spare = p.spare[:last]
		return page, api.OK
	}
	page, e := p.tx.Take()
	if e == api.OK {
		p.taken = append(p.taken, page)
	}
	return page, e
}

func (p *plan) free(page int) {
	if page != 0 {
		p.spare = append(p.spare, page)
	}
}

// undo gives back what was taken. If that fails, the transaction is done, and there is nothing to give back to.
func (p *plan) undo() {
	for _, page := range p.taken {
		p.tx.Give(page)
	}
}

// carryOut gives pages back last, as the root's can't be.
func (p *plan) carryOut(was, root int) api.Errno {
	for _, w := range p.writes {
		if e := p.tx.Write(w.page, w.bytes); e != api.OK {
			return e
		}
	}
	if root != was {
		if e := p.tx.SetRoot(root); e != api.OK {
			return e
		}
	}
	for _, page := range p.spare {
		if e := p.tx.Give(page); e != api.OK {
			return e
		}
	}
	return api.OK
}
