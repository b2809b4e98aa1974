package shard

import (
	"headrace/api"
	"headrace/msgs"
	"headrace/place"
	"headrace/recs"
)

// Step processes a message, and returns what is sent for it.
func (n *Node) Step(phys int, m api.Msg) (l []api.Msg, e api.Errno) {
	defer func() {
		if n.fell(recover()) {
			l, e = nil, api.ErrDown
		}
	}()
	if n.down {
		return nil, api.ErrDown
	}
	if !n.minds(m) {
		return nil, api.OK
	}
	return n.do(phys, m), api.OK
}

// minds tells whether m is not to be ignored, if its Kind is one that the node knows.
func (n *Node) minds(m api.Msg) bool {
	isMine := m.To == n.id && (m.Range == n.id || m.Kind == api.MTook)
	isInTime := n.Born() || m.Kind == api.MHand
	return isMine && isInTime && msgs.May(m) == api.OK
}

// do does what a message asks for, and returns the answer, or nothing.
func (n *Node) do(phys int, m api.Msg) []api.Msg {
	switch m.Kind {
	case api.MRead:
		return n.read(m)
	case api.MPrepare:
		return n.prepare(phys, m)
	case api.MDecide:
		return n.decide(m)
	case api.MPull:
		return n.pull(m)
	case api.MTook:
		return n.took(m)
	case api.MHand:
		return n.hand(m)
	default:
		return nil
	}
}

// answer returns an answer to m, which has no more than every answer has.
func (n *Node) answer(kind int, m api.Msg) api.Msg {
	return api.Msg{Kind: kind, From: n.id, To: m.From, Txn: m.Txn, Range: m.Range}
}

// refuse returns an answer with an error. Who knows the range of another epoch is told what became of it.
func (n *Node) refuse(kind int, m api.Msg, e api.Errno) []api.Msg {
	a := n.answer(kind, m)
	a.Code, a.Stamp = e, n.clock.Last()
	if e == api.ErrEpoch {
		a.Ranges = n.Info()
	}
	return []api.Msg{a}
}

func (n *Node) read(m api.Msg) []api.Msg {
	seen, e := n.see(m)
	if e != api.OK {
		return n.refuse(api.MSeen, m, e)
	}
	a := n.answer(api.MSeen, m)
	a.Stamp, a.Seen = n.clock.Last(), seen
	return []api.Msg{a}
}

// see returns what the keys of an MRead are at its stamp.
func (n *Node) see(m api.Msg) ([]api.Seen, api.Errno) {
	if m.Epoch != n.span.Epoch {
		return nil, api.ErrEpoch
	}
	if e := n.hear(m.Stamp); e != api.OK {
		return nil, e
	}
	if !n.owns(m.Keys) {
		return nil, api.ErrRange
	}
	var l []api.Seen
	for _, key := range m.Keys {
		s, e := n.store.Read(key, m.Stamp)
		if e != api.OK {
			return nil, e
		}
		l = append(l, s)
	}
	return l, api.OK
}

// owns tells whether all keys lie in the range.
func (n *Node) owns(keys []string) bool {
	for _, key := range keys {
		if !place.In(n.span, place.Of(key)) {
			return false
		}
	}
	return true
}

func (n *Node) prepare(phys int, m api.Msg) []api.Msg {
	if p, has := n.store.Has(m.Txn); has {
		return n.accept(m, p.Stamp)
	}
	if _, isDone := n.done[m.Txn]; isDone {
		return nil
	}
	stamp, e := n.add(phys, m)
	if e != api.OK {
		return n.refuse(api.MVote, m, e)
	}
	return n.accept(m, stamp)
}

// accept returns the vote for a transaction that is pending with a stamp.
func (n *Node) accept(m api.Msg, stamp api.Stamp) []api.Msg {
	a := n.answer(api.MVote, m)
	a.Stamp = stamp
	return []api.Msg{a}
}

// add makes the transaction of an MPrepare pending with a new stamp, which it returns.
func (n *Node) add(phys int, m api.Msg) (api.Stamp, api.Errno) {
	if m.Epoch != n.span.Epoch {
		return api.Stamp{}, api.ErrEpoch
	}
	if e := n.hear(m.Stamp); e != api.OK {
		return api.Stamp{}, e
	}
	reads := keysSeen(m.Seen)
	if !n.owns(reads) || !n.owns(keysWritten(m.Writes)) {
		return api.Stamp{}, api.ErrRange
	}
	stamp, e := n.newStamp(phys)
	if e != api.OK {
		return api.Stamp{}, e
	}
	r := api.Rec{Kind: api.RPrepare, Txn: m.Txn, Stamp: stamp, Reads: reads, Writes: m.Writes, Parts: m.Parts}
	return stamp, n.keep(r, m.Seen)
}

// keep makes the transaction of an RPrepare pending, here and in the log.
func (n *Node) keep(r api.Rec, seen []api.Seen) api.Errno {
	if e := n.store.Prepare(pendingOf(r), seen); e != api.OK {
		return e
	}
	e := n.log(r)
	if e != api.OK {
		// No vote was sent: the coordinator may ask for one again, so that this is no decision.
		n.store.Resolve(r.Txn, false, api.Stamp{})
	}
	return e
}

func keysSeen(l []api.Seen) []string {
	var keys []string
	for _, s := range l {
		keys = append(keys, s.Key)
	}
	return keys
}

func keysWritten(l []api.Write) []string {
	var keys []string
	for _, w := range l {
		keys = append(keys, w.Key)
	}
	return keys
}

func (n *Node) decide(m api.Msg) []api.Msg {
	if _, has := n.store.Has(m.Txn); has && n.settle(m) != api.OK {
		return nil
	}
	return []api.Msg{n.answer(api.MDone, m)}
}

// settle decides the pending transaction of an MDecide.
func (n *Node) settle(m api.Msg) api.Errno {
	if e := n.store.Would(m.Txn, m.Commit, m.Stamp); e != api.OK {
		return e
	}
	if e := n.log(api.Rec{Kind: api.RDecide, Txn: m.Txn, Commit: m.Commit, Stamp: m.Stamp}); e != api.OK {
		return e
	}
	return n.resolve(m.Txn, m.Commit, m.Stamp)
}

// resolve decides the pending transaction t, as the log tells it.
func (n *Node) resolve(t api.Txn, commit bool, at api.Stamp) api.Errno {
	if e := n.store.Resolve(t, commit, at); e != api.OK {
		return e
	}
	n.done[t] = struct{}{}
	if commit {
		n.clock.Observe(at)
	}
	return api.OK
}

func (n *Node) pull(m api.Msg) []api.Msg {
	if n.hear(m.Stamp) != api.OK {
		return nil
	}
	l, e := n.book.From(m.N, m.Max)
	if e != api.OK {
		return nil
	}
	a := n.answer(api.MBatch, m)
	a.N = m.N
	for _, b := range l {
		// What the log has was encoded, or was decoded when the node was opened.
		r, _ := recs.Decode(b)
		a.Recs = append(a.Recs, r)
	}
	return []api.Msg{a}
}

func (n *Node) took(m api.Msg) []api.Msg {
	k := n.waiting(m.Range)
	if k != nil && n.log(api.Rec{Kind: api.RTook, N: m.Range}) == api.OK {
		k.take()
	}
	return nil
}

func (n *Node) hand(m api.Msg) []api.Msg {
	if !n.Born() && n.begin(m.State) != api.OK {
		return nil
	}
	return []api.Msg{n.answer(api.MTook, m)}
}
