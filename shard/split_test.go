package shard_test

import (
	"math"
	"slices"
	"testing"

	"headrace/api"
	"headrace/disk"
	"headrace/place"
)

// splits holds a Split to its error.
func (r *rig) splits(what string, phys int, point float64, child int, want api.Errno) {
	r.Helper()
	same(r.T, what, r.n.Split(phys, point, child), want)
}

// P16.6: the errors before a stamp is made.
func TestSplitErrors(t *testing.T) {
	r := raw(t, disk.New(), 1)
	r.silent("P16.6", func() { r.splits("P16.6: not born", api.MaxWall+1, nan, 0, api.ErrState) })
	r = born(t, api.State{Range: api.Range{ID: 1, Lo: 0.125, Hi: 0.75}})
	r.fill(0)
	r.silent("P16.6", func() {
		for _, x := range []float64{nan, math.Inf(1), math.Inf(-1), math.Copysign(0, -1), -1, math.Nextafter(1, 2)} {
			r.splits("P16.6: no point", api.MaxWall+1, x, 2, api.ErrRange)
		}
		for _, child := range []int{0, 1, 13, -1, math.MaxInt, math.MinInt} {
			r.splits("P16.6: no child", api.MaxWall+1, 0.5, child, api.ErrRange)
			r.splits("P16.6: no child, and narrow", api.MaxWall+1, 0.75, child, api.ErrRange)
		}
		for _, x := range []float64{0, 0.125, 0.75, 1, math.Nextafter(0.125, 0), math.SmallestNonzeroFloat64} {
			r.splits("P16.6: narrow", api.MaxWall+1, x, 2, api.ErrNarrow)
		}
		r.last("P16.6: no stamp is made", at(0, 0, 1))
	})
	stands(t, "P16.6", r.n, api.State{Range: api.Range{ID: 1, Lo: 0.125, Hi: 0.75}}, []api.Range{{ID: 1, Lo: 0.125, Hi: 0.75}}, nil, 0)
	r = born(t, api.State{Range: api.Range{ID: 1, Epoch: math.MaxInt, Hi: 1}})
	r.silent("P16.6", func() { r.splits("P16.6: the last epoch", api.MaxWall+1, 0.5, 2, api.ErrRange) })
	r = busy(t)
	r.fill(0)
	r.silent("P16.6", func() {
		r.splits("P16.6: a kid twice", api.MaxWall+1, 0.25, 2, api.ErrTwice)
		r.splits("P16.6: narrow, and a kid twice", api.MaxWall+1, 0.5, 2, api.ErrNarrow)
		r.last("P16.6: no stamp is made", at(6, 0, 1))
	})
	r.free()
	r.steps("P16.3", 0, 2, took(2))
	r.splits("P16.6: a kid twice, though it was taken", 6, 0.25, 2, api.ErrTwice)
}

// P16.6: the errors of making a stamp, and a ceiling at its end.
func TestSplitStampErrors(t *testing.T) {
	r := fresh(t)
	r.splits("P16.6: ErrWall of the clock", api.MaxWall+1, 0.5, 2, api.ErrWall)
	same(t, "P16.6", r.n.Ceiling(), 0)
	r.fill(0)
	r.silent("P16.6", func() { r.splits("P16.6: no room for an RCeil", 5, 0.5, 2, api.ErrFull) })
	r.free()
	r.steps("P16.3", 0, 31, pull(1, 0, at(5, api.MaxLogical, 9)), api.Msg{Kind: api.MBatch, N: 1})
	r.silent("P16.6", func() { r.splits("P16.6: ErrLogical", 5, 0.5, 2, api.ErrLogical) })
	stands(t, "P16.6", r.n, api.State{Range: whole}, []api.Range{whole}, nil, 21)
	for _, wall := range []int{api.MaxWall - 16, api.MaxWall} {
		r = fresh(t)
		r.splits("P16.6: the ceiling gets to its end", wall, 0.5, 2, api.ErrWall)
		r.logs("P16.6", birth(api.State{Range: whole}), ceil(api.MaxWall))
		r.silent("P16.6", func() { r.splits("P16.6: the ceiling is at its end", 5, 0.5, 2, api.ErrWall) })
		stands(t, "P16.6", r.n, api.State{Range: whole}, []api.Range{whole}, nil, api.MaxWall)
		r.again()
		stands(t, "P16.8", r.n, api.State{Range: whole}, []api.Range{whole}, nil, api.MaxWall)
		r.splits("P16.6: no stamp is left", 5, 0.5, 2, api.ErrLogical)
	}
	r = fresh(t)
	r.splits("P16.6: right below the end", api.MaxWall-17, 0.5, 2, api.OK)
	same(t, "P16.6", r.n.Ceiling(), api.MaxWall-1)
	l, _ := r.n.Tick(0)
	same(t, "P16.6", l[0].State.Floor, at(api.MaxWall, 0, 0))
}

// P16.6: the errors of the halves and of the log.
func TestSplitLateErrors(t *testing.T) {
	half := birth(api.State{Range: api.Range{ID: 1, Hi: 0.5}})
	r := raw(t, written(t, half, preparing(t1, at(5, 0, 1), nil, puts(1, highA))), 1)
	r.fill(0)
	// The clock stands at {1, 0, 1}.
	r.splits("P16.6: no room for the RCeil", 0, 0.25, 2, api.ErrFull)
	r.fill(r.sized(ceil(17)))
	r.splits("P16.6: a key outside", 0, 0.25, 2, api.ErrForm)
	r.logs("P16.6", ceil(17))
	same(t, "P16.6", r.n.Hands(), []int{})
	r = fresh(t)
	r.fill(r.sized(ceil(21)) + r.sized(split(0.5, 2, at(5, 0, 1))) - 1)
	r.splits("P16.6: no room for the RSplit", 5, 0.5, 2, api.ErrFull)
	stands(t, "P16.6", r.n, api.State{Range: whole}, []api.Range{whole}, nil, 21)
	r.logs("P16.6", ceil(21))
	r.fill(r.sized(split(0.5, 2, at(5, 1, 1))))
	r.splits("P16.6", 5, 0.5, 2, api.OK)
	r.logs("P16.6", ceil(21), split(0.5, 2, at(5, 1, 1)))
}

// P16.6: a child that is too long for a record is not split off.
func TestSplitOfALongChild(t *testing.T) {
	s := api.State{Range: whole, Histories: slices.DeleteFunc(many(6000), func(h api.History) bool { return place.Of(h.Key) < 0.5 })}
	// As many as a birth has room for, or all but one.
	one := len(encoded(t, birth(api.State{Range: whole, Histories: s.Histories[:2]}))) - len(encoded(t, birth(api.State{Range: whole, Histories: s.Histories[:1]})))
	s.Histories = s.Histories[:(api.MaxRecord-60)/one]
	r := born(t, s)
	var keys []string
	for i := range 16 {
		keys = append(keys, s.Histories[i].Key)
	}
	r.steps("P16.3", 5, 21, prepare(t1, at(4, 0, 21), nil, puts(7, keys...)), vote(api.OK, at(5, 0, 1)))
	r.splits("P16.6: too long", 5, 0.5, 2, api.ErrLong)
	r.fill(0)
	r.silent("P16.6", func() { r.splits("P16.6: too long, and no room", 5, 0.5, 2, api.ErrLong) })
	s.Pending = []api.Pending{{Txn: t1, Stamp: at(5, 0, 1), Writes: puts(7, keys...)}}
	stands(t, "P16.6", r.n, s, []api.Range{whole}, nil, 20)
	r.free()
	r.steps("P16.3", 5, 21, abort(t1), done)
	r.splits("P16.6: not too long", 5, 0.5, 2, api.OK)
	r.logs("P16.6", aborting(t1), split(0.5, 2, at(5, 3, 1)))
}

// P16.6: what each half has.
func TestSplit(t *testing.T) {
	s := api.State{Range: whole, Floor: at(2, 0, 0), Closed: at(30, 4, 5), Histories: []api.History{once(highA, at(1, 0, 1), 1), once(lowB, at(1, 0, 2), nan)}}
	s.Pending = []api.Pending{{Txn: t1, Stamp: at(2, 0, 1), Reads: []string{highD, lowE}, Writes: puts(2, "c", "f")}, {Txn: t3, Stamp: at(2, 0, 2), Writes: puts(3, "i")}, {Txn: t2, Stamp: at(2, 0, 3), Reads: []string{"g"}}}
	r := born(t, s)
	r.splits("P16.6", 5, 0.5, 2, api.OK)
	r.logs("P16.6", birth(s), ceil(21), split(0.5, 2, at(5, 0, 1)))
	left := api.State{Range: lower, Floor: s.Floor, Closed: s.Closed, Histories: s.Histories[1:]}
	left.Pending = []api.Pending{{Txn: t1, Stamp: at(2, 0, 1), Reads: []string{lowE}, Writes: puts(2, "c")}, {Txn: t3, Stamp: at(2, 0, 2)}, s.Pending[2]}
	right := api.State{Range: upper, Floor: at(22, 0, 0), Closed: at(5, 0, 1), Histories: s.Histories[:1]}
	right.Pending = []api.Pending{{Txn: t1, Stamp: at(2, 0, 1), Reads: []string{highD}, Writes: puts(2, "f")}, {Txn: t3, Stamp: at(2, 0, 2), Writes: puts(3, "i")}}
	stands(t, "P16.6", r.n, left, []api.Range{lower, upper}, []int{2}, 21)
	r.last("P16.6: a stamp was made", at(5, 0, 1))
	r.ticks("P16.4", 5, handing(right), ask(21, t1), ask(21, t3), ask(22, t2))
	left.Closed = at(5, 1, 1)
	r.again()
	left.Closed = s.Closed
	stands(t, "P16.8", r.n, left, []api.Range{lower, upper}, []int{2}, 21)
	c := raw(t, disk.New(), 2)
	c.steps("P16.3", 5, 1, give(right), api.Msg{Kind: api.MTook})
	stands(t, "P16.3", c.n, right, []api.Range{upper}, nil, 0)
	c.last("P16.6: the child's stamps are above the parent's", at(22, 0, 2))
}

// P16.3, P16.6: both halves of a pending transaction are asked about and decided, each at its node.
func TestDecisionsBehindASplit(t *testing.T) {
	r := fresh(t)
	r.steps("P16.3", 5, 21, prepare(t1, at(4, 0, 21), unseen(lowE), puts(7, highA, lowB)), vote(api.OK, at(5, 0, 1)))
	r.splits("P16.6", 5, 0.5, 2, api.OK)
	l, _ := r.n.Tick(5)
	c := raw(t, disk.New(), 2)
	c.steps("P16.3", 5, 1, give(l[0].State), api.Msg{Kind: api.MTook})
	r.steps("P16.3", 5, 2, took(2))
	c.ticks("P16.4", 5, api.Msg{Kind: api.MAsk, To: 21, Txn: t1, Range: 2})
	m := read(t2, at(50, 0, 21), lowB)
	m.Epoch = 1
	r.steps("P16.3: it is locked", 5, 22, m, notSeen(api.ErrLocked, at(50, 0, 1)))
	m.Keys, m.Epoch = []string{highA}, 0
	c.steps("P16.3: it is locked", 5, 22, m, notSeen(api.ErrLocked, at(50, 0, 2)))
	for _, n := range []*rig{r, c} {
		n.steps("P16.3: it is pending", 5, 21, prepare(t1, at(4, 0, 21), nil, nil), vote(api.OK, at(5, 0, 1)))
		n.steps("P16.3", 5, 21, commit(t1, at(9, 0, 9)), done)
		n.steps("P16.3: it is done", 5, 21, prepare(t1, at(4, 0, 21), nil, nil))
		n.again()
	}
	same(t, "P16.6", r.n.State().Histories, []api.History{once(lowB, at(9, 0, 9), 7)})
	same(t, "P16.6", c.n.State().Histories, []api.History{once(highA, at(9, 0, 9), 7)})
	same(t, "P16.6", append(r.pending(), c.pending()...), []api.Txn{})
}

// P16.6: a range is split over and over, and its places are all there.
func TestSplitsOfAllIDs(t *testing.T) {
	r := fresh(t)
	var hands []int
	for child := 12; child >= 2; child-- {
		r.splits("P16.6", child, math.Pow(0.5, float64(13-child)), child, api.OK)
		hands = append(hands, child)
		same(t, "P16.5: Hands", r.n.Hands(), hands)
		same(t, "P16.6: the ranges are a cover", place.Check(r.n.Info()), api.OK)
		same(t, "P16.6: Epoch", r.n.State().Range.Epoch, 13-child)
	}
	for child := range 14 {
		if r.n.Split(20, 0.0001, child) == api.OK {
			t.Errorf("P16.6: a child %d", child)
		}
	}
	info := r.n.Info()
	r.again()
	same(t, "P16.8: Info", r.n.Info(), info)
	same(t, "P16.8: Hands", r.n.Hands(), hands)
}
