package shard

import (
	"headrace/api"
	"headrace/disk"
	"headrace/hlc"
	"headrace/recs"
	"headrace/wal"
)

// logName is the name of the log of a node on its disk.
const logName = "log"

// Open opens the node on the disk, with all that its log tells.
func Open(d *disk.Disk, id, segment int) (*Node, api.Errno) {
	if id < 1 || id > api.MaxRanges {
		return nil, api.ErrRange
	}
	book, e := wal.Open(d, logName, segment)
	if e != api.OK {
		return nil, e
	}
	n := &Node{id: id, book: book}
	if !n.replay() {
		return nil, api.ErrCorrupt
	}
	if n.Born() {
		// Every stamp that the node ever made or heard lies below, but for those at which it was told to commit.
		n.clock.Observe(n.above())
	}
	return n, api.OK
}

// above returns a stamp above all stamps whose Wall the ceiling allows, or the greatest one of a clock.
func (n *Node) above() api.Stamp {
	if n.ceiling == api.MaxWall {
		return api.Stamp{Wall: api.MaxWall, Logical: api.MaxLogical}
	}
	return api.Stamp{Wall: n.ceiling + 1}
}

// replay applies the records of the log, and tells whether all of them could be applied.
func (n *Node) replay() bool {
	first := n.book.First()
	// A log that was just opened has no record that is not safe.
	l, _ := n.book.From(first, n.book.Next()-first)
	for _, b := range l {
		r, e := recs.Decode(b)
		if e != api.OK || !n.apply(r) {
			return false
		}
	}
	return true
}

// apply does what a valid record of the log tells, and tells whether that could be done.
func (n *Node) apply(r api.Rec) bool {
	// The first record is a birth, and no later one is.
	if (r.Kind == api.RBirth) == n.Born() {
		return false
	}
	switch r.Kind {
	case api.RBirth:
		return n.applyBirth(r.State)
	case api.RCeil:
		n.ceiling = max(n.ceiling, r.N)
		return true
	case api.RPrepare:
		return n.applyPrepare(r)
	case api.RDecide:
		return n.resolve(r.Txn, r.Commit, r.Stamp) == api.OK
	case api.RClose:
		n.closed = hlc.Later(n.closed, r.Stamp)
		return true
	case api.RSplit:
		return n.applySplit(r)
	case api.RTook:
		return n.applyTook(r.N)
	default:
		return false
	}
}

func (n *Node) applyBirth(s api.State) bool {
	if s.Range.ID != n.id {
		return false
	}
	n.bear(s)
	return true
}

func (n *Node) applyPrepare(r api.Rec) bool {
	var seen []api.Seen
	// What the transaction saw is not in the record; that nothing was stale was found out ahead of it.
	for _, key := range r.Reads {
		seen = append(seen, n.store.Newest(key))
	}
	return n.store.Prepare(pendingOf(r), seen) == api.OK
}

// pendingOf returns the transaction of an RPrepare.
func pendingOf(r api.Rec) api.Pending {
	return api.Pending{Txn: r.Txn, Stamp: r.Stamp, Reads: r.Reads, Writes: r.Writes}
}

func (n *Node) applySplit(r api.Rec) bool {
	if n.hasKid(r.N) {
		return false
	}
	left, right, e := n.divide(r.Point, r.N, r.Stamp)
	if e != api.OK {
		return false
	}
	n.split(left, right)
	return true
}

func (n *Node) applyTook(id int) bool {
	k := n.waiting(id)
	if k == nil {
		return false
	}
	k.take()
	return true
}
