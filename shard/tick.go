package shard

import (
	"slices"

	"headrace/api"
)

// Tick closes the time up to now, hands over children, and asks how what is pending was decided.
func (n *Node) Tick(phys int) (l []api.Msg, e api.Errno) {
	defer func() {
		if n.fell(recover()) {
			l, e = nil, api.ErrDown
		}
	}()
	if n.down {
		return nil, api.ErrDown
	}
	if !n.Born() {
		return nil, api.OK
	}
	n.close(phys)
	return slices.Concat(n.hands(), n.asks()), api.OK
}

// close sees to it that nothing is prepared at or below a new stamp any more. If that fails, the next Tick tries again.
func (n *Node) close(phys int) {
	stamp, e := n.newStamp(phys)
	if e != api.OK {
		return
	}
	if n.log(api.Rec{Kind: api.RClose, Stamp: stamp}) == api.OK {
		n.closed = stamp
	}
}

// hands returns the messages that hand over the kids that were not taken.
func (n *Node) hands() []api.Msg {
	var l []api.Msg
	for _, k := range n.kids {
		if !k.taken {
			id := k.span.ID
			l = append(l, api.Msg{Kind: api.MHand, From: n.id, To: id, Range: id, State: k.state()})
		}
	}
	return l
}

// asks returns the questions for the decisions of what is pending.
func (n *Node) asks() []api.Msg {
	var l []api.Msg
	for _, p := range n.store.Pending() {
		l = append(l, api.Msg{Kind: api.MAsk, From: n.id, To: api.Coords + p.Txn.Coord, Txn: p.Txn, Range: n.id})
	}
	return l
}
