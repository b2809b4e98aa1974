package shard

import (
	"slices"
	"strconv"

	"headrace/api"
	"headrace/hand"
	"headrace/mvcc"
	"headrace/place"
	"headrace/recs"
)

// Split splits the range at a point; what lies from there on is the child's.
func (n *Node) Split(phys int, point float64, child int) (e api.Errno) {
	defer func() {
		if n.fell(recover()) {
			e = api.ErrDown
		}
	}()
	if n.down {
		return api.ErrDown
	}
	if e := n.maySplit(point, child); e != api.OK {
		return e
	}
	stamp, e := n.newStamp(phys)
	if e != api.OK {
		return e
	}
	left, right, e := n.divide(point, child, stamp)
	if e != api.OK {
		return e
	}
	// A child that no log has room for could never be born.
	if _, e := recs.Encode(api.Rec{Kind: api.RBirth, State: right}); e != api.OK {
		return e
	}
	if e := n.log(api.Rec{Kind: api.RSplit, Point: point, N: child, Stamp: stamp}); e != api.OK {
		return e
	}
	n.split(left, right)
	return api.OK
}

// maySplit returns the error that a split has before a stamp is made for it.
func (n *Node) maySplit(point float64, child int) api.Errno {
	if !n.Born() {
		return api.ErrState
	}
	if _, _, e := place.Split(n.span, point, child); e != api.OK {
		return e
	}
	if n.hasKid(child) {
		return api.ErrTwice
	}
	return api.OK
}

// hasKid tells whether a child with this ID was split off, taken or not.
func (n *Node) hasKid(id int) bool {
	return slices.ContainsFunc(n.kids, func(k kid) bool { return k.span.ID == id })
}

// divide returns the states of both halves. The stamps of the child are above all that this node made or heard.
func (n *Node) divide(point float64, child int, stamp api.Stamp) (left, right api.State, e api.Errno) {
	if n.ceiling == api.MaxWall {
		return api.State{}, api.State{}, api.ErrWall
	}
	return hand.Divide(n.state(), point, child, stamp, n.above())
}

// split keeps the left half, and the right one as a kid.
func (n *Node) split(left, right api.State) {
	low := n.store.Low()
	n.share = shareOf(left)
	lift(n.store, low)
	n.kids = append(n.kids, kid{share: shareOf(right)})
}

// lift makes low the Low of a store. A store has its Low from reads alone; one of any key does it, unless a transaction
// that is pending locks the key, and these lock only so many.
func lift(s *mvcc.Store, low api.Stamp) {
	for i := 0; ; i++ {
		if _, e := s.Read(strconv.Itoa(i), low); e == api.OK {
			return
		}
	}
}

// waiting returns the kid with this ID, if it was not taken, or nil.
func (n *Node) waiting(id int) *kid {
	i := slices.IndexFunc(n.kids, func(k kid) bool { return k.span.ID == id && !k.taken })
	if i < 0 {
		return nil
	}
	return &n.kids[i]
}

// take keeps of a kid what is told of it once it was taken.
func (k *kid) take() {
	*k = kid{share: share{span: k.span}, taken: true}
}
