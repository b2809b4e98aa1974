package shard_test

import (
	"testing"

	"headrace/api"
	"headrace/disk"
)

// P16.4
func TestTickOfANodeThatIsNotBorn(t *testing.T) {
	r := raw(t, disk.New(), 1)
	for _, phys := range []int{-1, 0, 5, api.MaxWall + 1} {
		r.silent("P16.4: not born", func() { r.ticks("P16.4: not born", phys) })
	}
	zero(t, "P16.4", r.n, false)
}

// P16.4: a Tick closes a new stamp.
func TestTickCloses(t *testing.T) {
	r := fresh(t)
	for _, c := range []struct {
		phys int
		want api.Stamp
	}{{0, at(0, 1, 1)}, {-7, at(0, 2, 1)}, {3, at(3, 0, 1)}, {3, at(3, 1, 1)}, {1, at(3, 2, 1)}, {19, at(19, 0, 1)}, {20, at(20, 0, 1)}} {
		r.ticks("P16.4", c.phys)
		same(t, "P16.4: Closed", r.n.State().Closed, c.want)
		r.logs("P16.4", closing(c.want))
		r.last("P16.4: the stamp is made", c.want)
	}
	r.logs("P16.4", closing(at(0, 1, 1)), closing(at(0, 2, 1)), ceil(19), closing(at(3, 0, 1)), closing(at(3, 1, 1)), closing(at(3, 2, 1)), closing(at(19, 0, 1)), ceil(36), closing(at(20, 0, 1)))
	r.again()
	same(t, "P16.8: Closed", r.n.State().Closed, at(20, 0, 1))
	// Closed is the stamp of the Tick, also if the node was born with a later one; what an Open finds is the later one.
	r = born(t, api.State{Range: whole, Closed: at(50, 0, 3)})
	r.ticks("P16.4", 5)
	same(t, "P16.4: Closed is this stamp", r.n.State().Closed, at(5, 0, 1))
	r.again()
	same(t, "P16.1: Closed is the later one", r.n.State().Closed, at(50, 0, 3))
}

// P16.4: errors of closing are ignored, and the messages are sent all the same.
func TestTickIgnoresErrors(t *testing.T) {
	r := busy(t)
	closed := at(6, 3, 1)
	r.ticks("P16.4", 6, handing(kid(at(21, 0, 0))), ask(21, t1))
	same(t, "P16.4: Closed", r.n.State().Closed, at(6, 1, 1))
	r.ticks("P16.4", 6, handing(kid(at(21, 0, 0))), ask(21, t1))
	r.ticks("P16.4", 6, handing(kid(at(21, 0, 0))), ask(21, t1))
	same(t, "P16.4: Closed", r.n.State().Closed, closed)
	r.silent("P16.4: ErrWall", func() { r.ticks("P16.4: ErrWall", api.MaxWall+1, handing(kid(at(21, 0, 0))), ask(21, t1)) })
	r.fill(0)
	r.silent("P16.4: no room for an RCeil", func() { r.ticks("P16.4: no room for an RCeil", 40, handing(kid(at(21, 0, 0))), ask(21, t1)) })
	r.last("P16.4: no stamp is made", closed)
	r.silent("P16.4: no room for an RClose", func() { r.ticks("P16.4: no room for an RClose", 20, handing(kid(at(21, 0, 0))), ask(21, t1)) })
	r.last("P16.4: a stamp is made", at(20, 0, 1))
	same(t, "P16.4: Closed", r.n.State().Closed, closed)
	r.fill(r.sized(ceil(39)))
	r.ticks("P16.4: no room for an RClose behind an RCeil", 23, handing(kid(at(21, 0, 0))), ask(21, t1))
	r.logs("P16.4", closing(closed), ceil(39))
	same(t, "P16.4: Closed", r.n.State().Closed, closed)
	same(t, "P16.4: the ceiling", r.n.Ceiling(), 39)
	r.free()
	r.ticks("P16.4", 23, handing(kid(at(21, 0, 0))), ask(21, t1))
	same(t, "P16.4: Closed", r.n.State().Closed, at(23, 1, 1))
	r.steps("P16.3", 0, 31, pull(1, 0, at(50, api.MaxLogical, 9)), api.Msg{Kind: api.MBatch, N: 1})
	r.silent("P16.4: ErrLogical", func() { r.ticks("P16.4: ErrLogical", 50, handing(kid(at(21, 0, 0))), ask(21, t1)) })
	same(t, "P16.4: Closed", r.n.State().Closed, at(23, 1, 1))
}

// kid is the child of busy, with its floor.
func kid(floor api.Stamp) api.State {
	s := api.State{Range: upper, Floor: floor, Closed: at(6, 0, 1)}
	s.Pending = []api.Pending{{Txn: t1, Stamp: at(5, 0, 1), Reads: []string{highA}}}
	return s
}

// P16.4: what a Tick sends, and in which order.
func TestTickSends(t *testing.T) {
	r := fresh(t)
	r.ticks("P16.4: nothing to be sent", 1)
	txns := []api.Txn{{Coord: 2, Life: 1, Seq: 1}, {Coord: 1, Life: 2, Seq: 1}, {Coord: 1, Life: 1, Seq: 2}, {Coord: 1, Life: 1, Seq: 1}, {Coord: 2, Life: 1, Seq: 3}}
	for i, x := range txns {
		r.steps("P16.3", 5, 21, prepare(x, at(1, 0, 21), nil, puts(1, string(rune('a'+i)))), vote(api.OK, at(5, i, 1)))
	}
	asks := func() []api.Msg {
		return []api.Msg{ask(21, txns[3]), ask(21, txns[2]), ask(21, txns[1]), ask(22, txns[0]), ask(22, txns[4])}
	}
	r.ticks("P16.4: the Txns ascend", 5, asks()...)
	r.again()
	r.ticks("P16.8: the Txns ascend", 5, asks()...)
	same(t, "P16.6", r.n.Split(5, 0.5, 9), api.OK)
	same(t, "P16.6", r.n.Split(5, 0.25, 3), api.OK)
	same(t, "P16.6", r.n.Split(5, 0.125, 6), api.OK)
	kinds := func(what string, want ...int) {
		t.Helper()
		l, e := r.n.Tick(5)
		same(t, what, e, api.OK)
		var got []int
		for _, m := range l {
			if m.Kind == api.MHand {
				same(t, what+": an MHand", []int{m.From, m.Range, m.State.Range.ID}, []int{1, m.To, m.To})
				got = append(got, m.To)
			}
		}
		same(t, what, got, want)
		want2 := asks()
		for i := range want2 {
			want2[i].From = 1
		}
		same(t, what, l[len(want):], want2)
	}
	kinds("P16.4: the kids in the order of the splits", 9, 3, 6)
	r.steps("P16.3", 5, 3, took(3))
	kinds("P16.4: without the one that was taken", 9, 6)
	r.again()
	kinds("P16.8", 9, 6)
	r.steps("P16.3", 5, 9, took(9))
	r.steps("P16.3", 5, 6, took(6))
	kinds("P16.4: all are taken")
	for _, x := range txns {
		r.steps("P16.3", 5, 21, abort(x), done)
	}
	r.ticks("P16.4: nothing is left", 5)
}

// P16.4: a kid is handed over as it was when it was split off, whatever became of its parent.
func TestTickHandsOverWhatWasSplitOff(t *testing.T) {
	r := busy(t)
	r.steps("P16.3", 5, 21, commit(t1, at(9, 0, 1)), done)
	r.steps("P16.3", 5, 21, func() api.Msg {
		m := prepare(t2, at(4, 0, 21), nil, puts(8, lowE))
		m.Epoch = 1
		return m
	}(), vote(api.OK, at(9, 1, 1)))
	same(t, "P16.6", r.n.Split(30, 0.25, 3), api.OK)
	r.steps("P16.3", 5, 21, commit(t2, at(40, 0, 1)), done)
	for range 2 {
		l, _ := r.n.Tick(30)
		same(t, "P16.4", l[0].State, kid(at(21, 0, 0)))
		same(t, "P16.4", l[1].State, api.State{Range: api.Range{ID: 3, Lo: 0.25, Hi: 0.5}, Floor: at(47, 0, 0), Closed: at(30, 0, 1), Histories: []api.History{once(lowB, at(9, 0, 1), 7)}})
		r.again()
	}
}
