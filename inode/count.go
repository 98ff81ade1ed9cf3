package inode

import (
	"chandlery/api"
	"chandlery/btree"
	"chandlery/keys"
	"chandlery/pages"
)

// full is the next number when all were told.
const full = api.MaxInode + 1

// count is which number is next, as a transaction's tree tells it.
type count struct {
	tx   *pages.Tx
	key  string
	was  string // its bytes in the tree; none, if it is not there
	next int
}

func openCount(t *pages.Tx) (*count, api.Errno) {
	key, _ := keys.Bytes(api.Key{Kind: api.KeyCount}) // it has no field that might not be
	s, is, e := btree.Get(t, key)
	if e != api.OK {
		return nil, e
	}
	c := &count{tx: t, key: key, was: s, next: first}
	if is {
		c.next = numberOf(s)
		if c.next < first || countBytes(c.next) != s {
			return nil, api.ErrForm
		}
	}
	return c, api.OK
}

// prepare sees to it that put will not fail behind a change that was done. Where the bytes stay as many as they were, put reaches what was read for them, and no more; else it may reach any page, so the whole tree is checked.
func (c *count) prepare(next int) api.Errno {
	if len(countBytes(next)) == len(c.was) {
		return api.OK
	}
	_, e := btree.Check(c.tx)
	return e
}

func (c *count) put(next int) api.Errno {
	_, e := btree.Put(c.tx, c.key, countBytes(next))
	return e
}

// countBytes has a byte more than other numbers for full alone, which would be nought without it, and tell all numbers again.
func countBytes(next int) string {
	if next == full {
		return number(next, numberSize+1)
	}
	return number(next, numberSize)
}
