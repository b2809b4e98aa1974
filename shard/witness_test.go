package shard_test

import (
	"testing"

	"headrace/api"
	"headrace/hlc"
	"headrace/place"
	"headrace/shard"
)

// witness is one who knows what a node told, and holds it to that.
type witness struct {
	*testing.T
	// high is the greatest of the stamps that were sent, read at and closed.
	high api.Stamp
	// votes has the transactions that the node voted for, as they are pending there.
	votes map[api.Txn]api.Pending
	// decided has the decisions that the node answered, of what it voted for.
	decided map[api.Txn]api.Msg
	// maybe is a decision by which the node fell.
	maybe      api.Msg
	wasPending bool
}

func newWitness(t *testing.T) *witness {
	return &witness{T: t, votes: make(map[api.Txn]api.Pending), decided: make(map[api.Txn]api.Msg)}
}

// has returns what is pending at the node.
func has(n *shard.Node, t api.Txn) (api.Pending, bool) {
	for _, p := range n.State().Pending {
		if p.Txn == t {
			return p, true
		}
	}
	return api.Pending{}, false
}

// before looks at the node before a message.
func (w *witness) before(n *shard.Node, m api.Msg) {
	_, w.wasPending = has(n, m.Txn)
}

// made holds a new stamp to being above all that was told.
func (w *witness) made(what string, s api.Stamp) {
	w.Helper()
	if hlc.Compare(s, w.high) <= 0 {
		w.Fatalf("P16.8: %s at %v behind %v", what, s, w.high)
	}
	w.high = s
}

// stepped hears the answer to a message.
func (w *witness) stepped(m api.Msg, l []api.Msg, e api.Errno) {
	w.Helper()
	if e == api.ErrDown && m.Kind == api.MDecide && w.wasPending {
		w.maybe = m
	}
	for _, a := range l {
		switch {
		case a.Kind == api.MVote && a.Code == api.OK && !w.wasPending:
			w.made("a vote", a.Stamp)
			p := api.Pending{Txn: m.Txn, Stamp: a.Stamp, Writes: m.Writes}
			w.votes[m.Txn] = p
		case a.Kind == api.MSeen && a.Code == api.OK:
			w.high = hlc.Later(w.high, m.Stamp)
		case a.Kind == api.MDone && w.wasPending:
			w.decided[m.Txn] = m
		}
		w.high = hlc.Later(w.high, a.Stamp)
	}
}

// ticked looks at the node after a Tick.
func (w *witness) ticked(closed api.Stamp, n *shard.Node) {
	w.Helper()
	if s := n.State().Closed; n.Born() && s != closed {
		w.made("a close", s)
	}
}

// opened holds a node that was opened again to what it told before (P16.8).
func (w *witness) opened(n *shard.Node) {
	w.Helper()
	for t, p := range w.votes {
		now, isPending := has(n, t)
		m, isTold := w.decided[t]
		if !isTold && !isPending && w.maybe.Txn == t {
			// The node fell by this decision, but had it in its log.
			m, isTold = w.maybe, true
			w.decided[t] = m
		}
		switch {
		case isPending == isTold, isPending && now.Stamp != p.Stamp:
			w.Fatalf("P16.8: %v is pending %t, decided %t, at %v, not %v", t, isPending, isTold, now.Stamp, p.Stamp)
		case isTold:
			w.holds(n, p.Writes, m)
		}
	}
	w.maybe = api.Msg{}
}

// holds holds the node to the versions of what was committed, and to none of what was aborted.
func (w *witness) holds(n *shard.Node, writes []api.Write, m api.Msg) {
	w.Helper()
	s := n.State()
	for _, one := range writes {
		if !place.In(s.Range, place.Of(one.Key)) {
			continue
		}
		found := false
		for _, h := range s.Histories {
			for _, v := range h.Versions {
				found = found || h.Key == one.Key && v.Stamp == m.Stamp && text(v.Value) == text(one.Value)
			}
		}
		if found != m.Commit {
			w.Fatalf("P16.8: %q of %v: a version %t, committed %t", one.Key, m.Txn, found, m.Commit)
		}
	}
}

// reads holds the log of the node to P16.9 and P16.10.
func (w *witness) reads(l []api.Rec) {
	w.Helper()
	closed := api.Stamp{}
	prepared, decided := make(map[api.Txn]int), make(map[api.Txn]int)
	for _, r := range l {
		switch r.Kind {
		case api.RClose, api.RSplit:
			closed = hlc.Later(closed, r.Stamp)
		case api.RPrepare:
			prepared[r.Txn]++
			if hlc.Compare(r.Stamp, closed) <= 0 {
				w.Fatalf("P16.9: %v is prepared at %v behind %v", r.Txn, r.Stamp, closed)
			}
		case api.RDecide:
			decided[r.Txn]++
		}
		if prepared[r.Txn] > 1 || decided[r.Txn] > 1 {
			w.Fatalf("P16.10: %v is prepared %d and decided %d times", r.Txn, prepared[r.Txn], decided[r.Txn])
		}
	}
}
