package shard

import (
	"headrace/api"
	"headrace/recs"
)

// fall is the panic by which a node that falls gives up what it was about to do.
type fall struct{}

// Error returns a text.
func (fall) Error() string {
	return "shard: the node falls"
}

// fell tells whether a fall was caught, after which the node has nothing any more, and lets every other panic go on.
func (n *Node) fell(caught any) bool {
	switch caught.(type) {
	case nil:
		return false
	case fall:
		*n = Node{down: true}
		return true
	default:
		panic(caught)
	}
}

// log makes a record safe.
func (n *Node) log(r api.Rec) api.Errno {
	b, e := recs.Encode(r)
	if e == api.OK {
		_, e = n.book.Append(b)
	}
	if e == api.OK {
		e = n.book.Sync()
	}
	if e == api.ErrDown {
		panic(fall{})
	}
	return e
}

// reach lifts the ceiling to a Wall, and some way above it, so that not every stamp costs a record.
func (n *Node) reach(wall int) api.Errno {
	if wall <= n.ceiling {
		return api.OK
	}
	ceiling := min(wall+api.Ahead, api.MaxWall)
	if e := n.log(api.Rec{Kind: api.RCeil, N: ceiling}); e != api.OK {
		return e
	}
	n.ceiling = ceiling
	return api.OK
}

// hear makes the stamps to come greater than s, also those after a crash.
func (n *Node) hear(s api.Stamp) api.Errno {
	if e := n.reach(s.Wall); e != api.OK {
		return e
	}
	return n.clock.Observe(s)
}

// newStamp makes a stamp above all before it. Its Wall is reached first, so that also those after a crash are above it.
func (n *Node) newStamp(phys int) (api.Stamp, api.Errno) {
	next, e := n.clock.Peek(phys)
	if e != api.OK {
		return api.Stamp{}, e
	}
	if e := n.reach(next.Wall); e != api.OK {
		return api.Stamp{}, e
	}
	return n.clock.Now(phys)
}
