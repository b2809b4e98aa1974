package shard_test

import (
	"math"
	"slices"
	"testing"

	"headrace/api"
	"headrace/disk"
	"headrace/place"
)

// ignored holds a message to having no effect at all.
func (r *rig) ignored(what string, m api.Msg) {
	r.Helper()
	before := text([]any{r.n.State(), r.n.Info(), r.n.Hands(), r.n.Ceiling()})
	r.silent(what, func() {
		l, e := r.n.Step(50, m)
		if e != api.OK || len(l) > 0 {
			r.Fatalf("%s: %+v, error %d", what, l, e)
		}
	})
	same(r.T, what, text([]any{r.n.State(), r.n.Info(), r.n.Hands(), r.n.Ceiling()}), before)
}

// goodMessages lists messages that the node 1 minds, each of which has an answer or a record.
func goodMessages() []api.Msg {
	r := rig{id: 1}
	p := prepare(t2, at(30, 0, 21), unseen("c"), puts(2, "e"))
	l := []api.Msg{read(t2, at(30, 0, 21), "a"), p, abort(t1), commit(t1, at(9, 0, 1)), pull(1, 8, at(30, 0, 21)), took(2), give(api.State{Range: whole})}
	for i, m := range l {
		l[i] = r.to(21, m)
	}
	return l
}

// busy is the node 1 with a transaction that is pending and a kid that was not taken.
func busy(t *testing.T) *rig {
	t.Helper()
	r := fresh(t)
	r.steps("P16.3", 5, 21, prepare(t1, at(4, 0, 21), unseen(highA), puts(7, lowB)), vote(api.OK, at(5, 0, 1)))
	same(t, "P16.6", r.n.Split(6, 0.5, 2), api.OK)
	return r
}

// P16.3: messages that are ignored.
func TestStepIgnores(t *testing.T) {
	for _, m := range goodMessages() {
		r := busy(t)
		for _, to := range []int{2, 12, 21, 22, 31, 32, 0, -1} {
			other := m
			other.To = to
			r.ignored("P16.3: not for this node", other)
		}
		for _, from := range []int{0, 13, 20, 23, 33, -1} {
			other := m
			other.From = from
			r.ignored("P16.3: not valid", other)
		}
		invalid := m
		invalid.Prev = at(1, 0, 0)
		r.ignored("P16.3: not valid", invalid)
		invalid = m
		invalid.Range = 0
		r.ignored("P16.3: not valid", invalid)
		if m.Kind != api.MTook && m.Kind != api.MHand {
			other := m
			other.Range = 2
			r.ignored("P16.3: another range", other)
		}
	}
	r := busy(t)
	r.ignored("P16.3: a child for another node", api.Msg{Kind: api.MHand, From: 2, To: 1, Range: 2, State: api.State{Range: upper}})
	for _, m := range []api.Msg{
		{}, {Kind: -1, From: 21, To: 1}, {Kind: 15, From: 21, To: 1}, {Kind: api.MRead, From: 21, To: 1, Txn: t1, Range: 1}, {Kind: api.MPrepare, From: 21, To: 1, Txn: t2, Range: 1, Parts: []int{2}},
		{Kind: api.MSeen, From: 21, To: 1, Txn: t1, Range: 1, Code: api.ErrEpoch}, {Kind: api.MVote, From: 21, To: 1, Txn: t1, Range: 1}, {Kind: api.MDone, From: 21, To: 1, Txn: t1, Range: 1}, {Kind: api.MAsk, From: 21, To: 1, Txn: t1, Range: 1},
		{Kind: api.MBatch, From: 31, To: 1, Range: 1, N: 1}, {Kind: api.MApply, From: 31, To: 1, Stamp: at(1, 0, 1), Txn: t1, Writes: puts(1, "a")}, {Kind: api.MHello, From: 31, To: 1}, {Kind: api.MHigh, From: 31, To: 1, Stamp: at(50, 0, 1)},
	} {
		r.ignored("P16.3: "+text(m), m)
	}
}

// P16.3: a node that is not born minds nothing but an MHand.
func TestStepOfANodeThatIsNotBorn(t *testing.T) {
	for _, m := range goodMessages() {
		r := raw(t, disk.New(), 1)
		if m.Kind != api.MHand {
			r.ignored("P16.3: not born", m)
			continue
		}
		invalid := m
		invalid.State.Floor = at(-1, 0, 0)
		r.ignored("P16.3: an MHand that is not valid", invalid)
		other := m
		other.Range, other.State.Range = 2, upper
		r.ignored("P16.3: an MHand of another range", other)
		r.steps("P16.3", 0, 5, m, api.Msg{Kind: api.MTook})
	}
}

// P16.3: an answer goes to whoever asked.
func TestStepAnswersTheAsker(t *testing.T) {
	r := fresh(t)
	for _, from := range []int{1, 2, 12, 21, 22, 31, 32} {
		r.steps("P16.3: MRead", 0, from, read(t2, at(0, 0, 1), "a"), seen(at(0, 0, 1), unseen("a")...))
		r.steps("P16.3: MDecide", 0, from, abort(t2), done)
		r.steps("P16.3: MPull", 0, from, pull(2, 8, at(0, 0, 1)), api.Msg{Kind: api.MBatch, N: 2})
		r.steps("P16.3: MHand", 0, from, give(api.State{Range: whole}), api.Msg{Kind: api.MTook})
	}
}

// P16.3: MRead.
func TestRead(t *testing.T) {
	s := api.State{Range: api.Range{ID: 1, Epoch: 4, Hi: 0.5}, Histories: []api.History{{Key: lowB, Versions: []api.Version{{Stamp: at(3, 0, 1), Value: number(nan)}, {Stamp: at(5, 0, 1)}, {Stamp: at(9, 0, 1), Value: api.Value{Kind: api.Text, Text: "x"}}}}}}
	s.Pending = []api.Pending{{Txn: t1, Stamp: at(7, 0, 1), Writes: puts(1, lowE)}, {Txn: t2, Stamp: at(7, 0, 1), Reads: []string{"c"}}}
	of := func(stamp api.Stamp, keys ...string) api.Msg {
		m := read(t2, stamp, keys...)
		m.Epoch = 4
		return m
	}
	got := func(v api.Value, stamp api.Stamp) api.Seen { return api.Seen{Key: lowB, Value: v, Stamp: stamp} }
	r := born(t, s)
	r.silent("P16.3: within the ceiling of 0", func() {
		r.steps("P16.3: nothing yet", 5, 21, of(at(0, 3, 21), lowB), seen(at(0, 3, 1), unseen(lowB)...))
	})
	r.steps("P16.3: below the first version", 5, 21, of(at(3, 0, 0), lowB, "c"), seen(at(3, 0, 1), unseen(lowB, "c")...))
	r.logs("P16.3: a Wall is reached", birth(s), ceil(19))
	r.silent("P16.3: within the ceiling", func() {
		r.steps("P16.3: the first version", 50, 21, of(at(4, 9, 0), lowB), seen(at(4, 9, 1), got(number(nan), at(3, 0, 1))))
		r.steps("P16.3: behind the clock", 5, 21, of(at(3, 0, 1), lowB), seen(at(4, 9, 1), got(number(nan), at(3, 0, 1))))
		r.steps("P16.3: None", 5, 21, of(at(6, 0, 1), lowB), seen(at(6, 0, 1), got(api.Value{}, at(5, 0, 1))))
		r.steps("P16.3: below the lock", 5, 21, of(at(6, 65535, 63), lowB, lowE), seen(at(6, 65535, 1), got(api.Value{}, at(5, 0, 1)), api.Seen{Key: lowE}))
		r.steps("P16.3: locked", 5, 21, of(at(7, 0, 1), lowE), notSeen(api.ErrLocked, at(7, 0, 1)))
		r.steps("P16.3: locked behind what isn't", 5, 21, of(at(9, 0, 1), lowB, lowE), notSeen(api.ErrLocked, at(9, 0, 1)))
		r.steps("P16.3: a key that is read only", 5, 21, of(at(19, 65535, 63), "c"), seen(at(19, 65535, 1), unseen("c")...))
		r.steps("P16.3: a key outside", 5, 21, of(at(1, 0, 0), highA, lowB), notSeen(api.ErrRange, at(19, 65535, 1)))
		r.steps("P16.3: a key outside, and a locked one", 5, 21, of(at(9, 0, 0), lowE, "z"), notSeen(api.ErrRange, at(19, 65535, 1)))
	})
	r.steps("P16.3: a key outside is told when the stamp was heard", 5, 21, of(at(20, 0, 63), highA), notSeen(api.ErrRange, at(20, 0, 1)))
	r.logs("P16.3: a Wall is reached", ceil(19), ceil(36))
	same(t, "P16.5", r.n.State(), s)
}

// P16.3: an MRead of another epoch is heard of no stamp, and told the info.
func TestReadOfAnotherEpoch(t *testing.T) {
	r := busy(t)
	m := read(t2, at(50, 0, 21), highA)
	for _, epoch := range []int{0, 2, math.MaxInt} {
		m.Epoch = epoch
		a := notSeen(api.ErrEpoch, at(6, 0, 1))
		a.Ranges = []api.Range{lower, upper}
		r.silent("P16.3", func() { r.steps("P16.3: ErrEpoch", 60, 21, m, a) })
	}
	r.steps("P16.3", 5, 2, took(2))
	a := notSeen(api.ErrEpoch, at(6, 0, 1))
	a.Ranges = []api.Range{lower, upper}
	r.steps("P16.3: with a kid that was taken", 60, 21, m, a)
	m.Epoch = 1
	r.steps("P16.3: the epoch itself", 60, 21, m, notSeen(api.ErrRange, at(50, 0, 1)))
}

// P16.3: what is read at a stamp stays so: no stamp up to it is made any more.
func TestReadHoldsBackPrepares(t *testing.T) {
	r := fresh(t)
	r.steps("P16.3", 5, 21, read(t2, at(8, 3, 21), "a"), seen(at(8, 3, 1), unseen("a")...))
	r.steps("P16.3", 5, 21, prepare(t1, at(4, 0, 21), nil, puts(1, "a")), vote(api.OK, at(8, 4, 1)))
	r.steps("P16.3", 5, 21, read(t2, at(8, 3, 21), "a"), seen(at(8, 4, 1), unseen("a")...))
	r.again()
	r.steps("P16.8", 5, 21, read(t2, at(8, 3, 21), "a"), seen(at(25, 0, 1), unseen("a")...))
}

// P16.3: the Walls of stamps that are heard or made, and the ceilings for them.
func TestCeilings(t *testing.T) {
	const most = api.MaxWall
	for _, c := range []struct{ wall, want int }{{0, 0}, {1, 17}, {5, 21}, {most - 17, most - 1}, {most - 16, most}, {most - 15, most}, {most - 1, most}, {most, most}} {
		r := fresh(t)
		r.steps("P16.3: MRead", 0, 21, read(t2, at(c.wall, 0, 21), "a"), seen(at(c.wall, 0, 1), unseen("a")...))
		same(t, "P16: to reach", r.n.Ceiling(), c.want)
		r = fresh(t)
		r.steps("P16.3: MPull", 0, 21, pull(1, 0, at(c.wall, 0, 21)), api.Msg{Kind: api.MBatch, N: 1})
		same(t, "P16: to reach", r.n.Ceiling(), c.want)
		r = fresh(t)
		r.steps("P16.3: MPrepare, heard", 0, 21, prepare(t1, at(c.wall, 0, 21), nil, nil), vote(api.OK, at(c.wall, 1, 1)))
		same(t, "P16: to reach", r.n.Ceiling(), c.want)
		r = fresh(t)
		r.ticks("P16.4", c.wall)
		same(t, "P16: to reach", r.n.Ceiling(), c.want)
		r = fresh(t)
		want := api.OK
		if c.want == most {
			want = api.ErrWall
		}
		same(t, "P16.6", r.n.Split(c.wall, 0.5, 2), want)
		same(t, "P16: to reach", r.n.Ceiling(), c.want)
		r = born(t, api.State{Range: whole, Floor: at(c.wall, 0, 5)})
		same(t, "P16.2: no Wall is reached", r.n.Ceiling(), 0)
		r.steps("P16.3: MPrepare, made", 0, 21, prepare(t1, at(0, 0, 21), nil, nil), vote(api.OK, at(c.wall, 1, 1)))
		same(t, "P16: to reach", r.n.Ceiling(), c.want)
	}
	r := fresh(t)
	for _, c := range []struct{ wall, want int }{{5, 21}, {20, 21}, {21, 21}, {4, 21}, {22, 38}, {38, 38}, {39, 55}} {
		r.steps("P16.3", 0, 21, pull(1, 0, at(c.wall, 0, 21)), api.Msg{Kind: api.MBatch, N: 1})
		same(t, "P16: to reach", r.n.Ceiling(), c.want)
	}
	r.logs("P16: to reach", birth(api.State{Range: whole}), ceil(21), ceil(38), ceil(55))
}

// P16.3: MPrepare.
func TestPrepare(t *testing.T) {
	r := born(t, api.State{Range: whole, Histories: []api.History{once("b", at(2, 0, 1), 5), once("c", at(3, 0, 9), 6)}})
	saw := []api.Seen{{Key: "b", Value: number(5), Stamp: at(2, 0, 1)}, {Key: "e"}}
	m := prepare(t1, at(4, 0, 21), saw, puts(7, "c", "d"))
	r.steps("P16.3", 3, 21, m, vote(api.OK, at(4, 1, 1)))
	p := preparing(t1, at(4, 1, 1), []string{"b", "e"}, puts(7, "c", "d"))
	r.logs("P16.3", ceil(20), p)
	same(t, "P16.5", r.n.State().Pending, []api.Pending{{Txn: t1, Stamp: at(4, 1, 1), Reads: p.Reads, Writes: p.Writes}})
	r.silent("P16.3: pending already", func() {
		for _, again := range []api.Msg{m, prepare(t1, at(90, 0, 21), nil, nil), prepare(t1, at(4, 0, 21), unseen("c"), puts(0, "z"))} {
			again.Epoch = 3
			r.steps("P16.3: pending already", 80, 22, again, vote(api.OK, at(4, 1, 1)))
		}
	})
	for _, c := range []struct {
		what   string
		seen   []api.Seen
		writes []api.Write
		e      api.Errno
	}{
		{"a written key is written", nil, puts(1, "a", "c"), api.ErrLocked},
		{"a read key is written", nil, puts(1, "b"), api.ErrLocked},
		{"a written key is read", unseen("d"), nil, api.ErrLocked},
		{"locked and stale", []api.Seen{{Key: "b", Stamp: at(1, 0, 1)}}, puts(1, "c"), api.ErrLocked},
		{"a version is newer", []api.Seen{{Key: "b", Value: number(5), Stamp: at(1, 0, 1)}}, nil, api.ErrStale},
		{"a version is there", unseen("b"), nil, api.ErrStale},
		{"no version is there", []api.Seen{{Key: "a", Value: number(1), Stamp: at(1, 0, 1)}}, nil, api.ErrStale},
	} {
		before := len(records(t, r.d))
		l, e := r.n.Step(3, r.to(22, prepare(t2, at(4, 0, 21), c.seen, c.writes)))
		if e != api.OK || len(l) != 1 || l[0].Code != c.e || len(l[0].Ranges) > 0 {
			t.Fatalf("P16.3: %s: %+v, error %d", c.what, l, e)
		}
		r.last("P16.3: a vote tells the clock's last stamp", l[0].Stamp)
		same(t, "P16.3: the records", len(records(t, r.d)), before)
		same(t, "P16.3: what is pending", r.pending(), []api.Txn{t1})
	}
	both := []api.Seen{{Key: "b", Value: number(99), Stamp: at(2, 0, 1)}, {Key: "e"}}
	r.steps("P16.3: what was read may be read, whatever its value was", 30, 22, prepare(t2, at(4, 0, 21), both, puts(1, "a")), vote(api.OK, at(30, 0, 1)))
	same(t, "P16.3: what is pending", r.pending(), []api.Txn{t1, t2})
	r.steps("P16.3: nothing is read or written", 30, 22, prepare(t3, at(4, 0, 21), nil, nil), vote(api.OK, at(30, 1, 1)))
	r.logs("P16.3", ceil(46), preparing(t2, at(30, 0, 1), []string{"b", "e"}, puts(1, "a")), preparing(t3, at(30, 1, 1), nil, nil))
}

// P16.3: each error of an MPrepare, with all errors that come after it in the list.
func TestPrepareTellsTheFirstError(t *testing.T) {
	s := api.State{Range: api.Range{ID: 1, Epoch: 4, Hi: 0.5}, Histories: []api.History{once(lowB, at(2, 0, 1), 5)}, Pending: []api.Pending{{Txn: t1, Stamp: at(3, 0, 1), Writes: puts(1, lowE)}}}
	r := born(t, s)
	m := prepare(t2, at(30, 0, 21), unseen(lowB), puts(1, lowE))
	m.Epoch = 4
	other := m
	other.Epoch, other.Writes = 5, puts(1, highA)
	epoch := vote(api.ErrEpoch, at(0, 0, 1))
	epoch.Ranges = []api.Range{s.Range}
	r.fill(0)
	r.silent("P16.3", func() { r.steps("P16.3: ErrEpoch", api.MaxWall+1, 22, other, epoch) })
	outside := other
	outside.Epoch = 4
	r.silent("P16.3", func() {
		r.steps("P16.3: the stamp can't be heard", api.MaxWall+1, 22, outside, vote(api.ErrFull, at(0, 0, 1)))
		same(t, "P16.3", r.n.Ceiling(), 0)
	})
	r.free()
	r.steps("P16.3: ErrRange of a write", api.MaxWall+1, 22, outside, vote(api.ErrRange, at(30, 0, 1)))
	outside.Seen, outside.Writes = unseen(highA, lowB), m.Writes
	r.silent("P16.3", func() {
		r.steps("P16.3: ErrRange of a read", api.MaxWall+1, 22, outside, vote(api.ErrRange, at(30, 0, 1)))
		r.steps("P16.3: no new stamp", api.MaxWall+1, 22, m, vote(api.ErrWall, at(30, 0, 1)))
	})
	r.fill(0)
	r.silent("P16.3", func() {
		r.steps("P16.3: the Wall of a new stamp can't be reached", 47, 22, m, vote(api.ErrFull, at(30, 0, 1)))
		r.steps("P16.3: the error of Prepare", 46, 22, m, vote(api.ErrLocked, at(46, 0, 1)))
		m.Writes = nil
		r.steps("P16.3: the error of Prepare", 46, 22, m, vote(api.ErrStale, at(46, 1, 1)))
		m.Seen[0].Stamp = at(2, 0, 1)
		r.steps("P16.3: the RPrepare can't be logged", 46, 22, m, vote(api.ErrFull, at(46, 2, 1)))
	})
	r.free()
	r.steps("P16.3", 46, 22, m, vote(api.OK, at(46, 3, 1)))
	m.Seen = unseen("c")
	m.Txn = t3
	r.steps("P16.3: a clock at its end", 46, 21, api.Msg{Kind: api.MPull, N: 1, Stamp: at(90, api.MaxLogical, 1)}, api.Msg{Kind: api.MBatch, N: 1})
	r.steps("P16.3: a clock at its end", 46, 22, m, vote(api.ErrLogical, at(90, api.MaxLogical, 1)))
	r.steps("P16.3: a negative time", -5, 22, m, vote(api.ErrLogical, at(90, api.MaxLogical, 1)))
	r.steps("P16.3: time goes on", 91, 22, m, vote(api.OK, at(91, 0, 1)))
}

// P16.3: a transaction whose RPrepare can't be logged is not pending, and locks nothing; it may be prepared later.
func TestPrepareWithoutRoom(t *testing.T) {
	r := fresh(t)
	r.steps("P16.3", 0, 21, pull(1, 0, at(20, 0, 1)), api.Msg{Kind: api.MBatch, N: 1})
	m := prepare(t1, at(4, 0, 21), unseen("a"), puts(7, "b", "c"))
	r.fill(r.sized(preparing(t1, at(20, 1, 1), []string{"a"}, puts(7, "b", "c"))) - 1)
	r.silent("P16.3", func() { r.steps("P16.3: no room", 5, 21, m, vote(api.ErrFull, at(20, 1, 1))) })
	same(t, "P16.3: what is pending", r.pending(), []api.Txn{})
	r.steps("P16.3: the keys are not locked", 5, 21, read(t2, at(36, 0, 21), "b"), seen(at(36, 0, 1), unseen("b")...))
	r.fill(r.sized(preparing(t1, at(36, 1, 1), []string{"a"}, puts(7, "b", "c"))))
	r.steps("P16.3: it is not done", 5, 21, m, vote(api.OK, at(36, 1, 1)))
	same(t, "P16.3: what is pending", r.pending(), []api.Txn{t1})
	r.again()
	same(t, "P16.8: what is pending", r.pending(), []api.Txn{t1})
}

// P16.3: MDecide.
func TestDecide(t *testing.T) {
	r := fresh(t)
	r.silent("P16.3", func() {
		r.steps("P16.3: not pending", 5, 22, commit(t1, at(5, 0, 1)), done)
		r.steps("P16.3: not pending", 5, 22, abort(t1), done)
		r.last("P16.3: a decision of what is not pending is not heard", at(0, 0, 1))
	})
	m := prepare(t1, at(4, 0, 21), unseen("a"), puts(7, "b", "c"))
	r.steps("P16.3: a decision that came too soon is none", 5, 22, m, vote(api.OK, at(5, 0, 1)))
	r.silent("P16.3: before its stamp", func() {
		for _, stamp := range []api.Stamp{at(5, 0, 0), at(4, 65535, 63), at(0, 0, 1)} {
			r.steps("P16.3: before its stamp", 5, 21, commit(t1, stamp))
		}
	})
	same(t, "P16.3: what is pending", r.pending(), []api.Txn{t1})
	r.steps("P16.3", 5, 21, commit(t1, at(90, 7, 3)), done)
	r.logs("P16.3", preparing(t1, at(5, 0, 1), []string{"a"}, puts(7, "b", "c")), committing(t1, at(90, 7, 3)))
	same(t, "P16.3: no Wall is reached", r.n.Ceiling(), 20)
	r.last("P16.3: the stamp is observed", at(90, 7, 1))
	h := []api.History{once("b", at(90, 7, 3), 7), once("c", at(90, 7, 3), 7)}
	same(t, "P16.5", r.n.State(), api.State{Range: whole, Histories: h})
	r.silent("P16.3: done", func() {
		r.steps("P16.3: decided again", 5, 22, commit(t1, at(90, 7, 3)), done)
		r.steps("P16.3: decided again, and otherwise", 5, 22, abort(t1), done)
		r.steps("P16.3: prepared again", 5, 22, m)
	})
	r.again()
	r.last("P16.1", at(90, 7, 1))
	r.steps("P16.3: of an epoch that is none", 5, 22, func() api.Msg { m.Epoch = 3; return m }())
	m = prepare(t2, at(4, 0, 21), []api.Seen{{Key: "b", Stamp: at(90, 7, 3)}}, puts(8, "b"))
	r.steps("P16.3", 5, 22, m, vote(api.OK, at(90, 8, 1)))
	r.steps("P16.3", 5, 22, abort(t2), done)
	r.logs("P16.3", aborting(t2))
	same(t, "P16.5", r.n.State(), api.State{Range: whole, Histories: h})
	r.steps("P16.3: an aborted one is done", 5, 22, m)
	r.steps("P16.3: its keys are not locked", 5, 22, prepare(t3, at(4, 0, 21), nil, puts(8, "b")), vote(api.OK, at(90, 9, 1)))
	r.steps("P16.3: at its stamp", 5, 22, commit(t3, at(90, 9, 1)), done)
	r.last("P16.3", at(90, 9, 1))
}

// P16.3: an MDecide that can't be logged is ignored, and may come again.
func TestDecideWithoutRoom(t *testing.T) {
	for _, m := range []api.Msg{commit(t1, at(70, 0, 1)), abort(t1)} {
		r := fresh(t)
		r.steps("P16.3", 5, 22, prepare(t1, at(4, 0, 21), nil, puts(1, "a")), vote(api.OK, at(5, 0, 1)))
		before := r.n.State()
		rec := api.Rec{Kind: api.RDecide, Txn: t1, Commit: m.Commit, Stamp: m.Stamp}
		r.fill(r.sized(rec) - 1)
		r.silent("P16.3", func() { r.steps("P16.3: no room", 5, 22, m) })
		same(t, "P16.3: it is pending", r.n.State(), before)
		r.last("P16.3: nothing is observed", at(5, 0, 1))
		r.steps("P16.3: it is not done", 5, 22, prepare(t1, at(4, 0, 21), nil, nil), vote(api.OK, at(5, 0, 1)))
		r.fill(r.sized(rec))
		r.steps("P16.3", 5, 22, m, done)
		same(t, "P16.3", r.pending(), []api.Txn{})
	}
}

// P16.3: MPull.
func TestPull(t *testing.T) {
	r := fresh(t)
	r.steps("P16.3", 5, 22, prepare(t1, at(4, 0, 21), unseen("a"), puts(nan, "b")), vote(api.OK, at(5, 0, 1)))
	for i := range 9 {
		r.ticks("P16.4", 6+i, ask(21, t1))
	}
	all := records(t, r.d)
	for n := 1; n <= len(all)+1; n++ {
		for most := range api.MaxBatch + 1 {
			l := all[n-1:]
			r.silent("P16.3", func() {
				r.steps("P16.3: MPull", 80, 31, pull(n, most, at(19, 0, 1)), api.Msg{Kind: api.MBatch, N: n, Recs: l[:min(most, len(l))]})
			})
		}
	}
	r.last("P16.3: the stamp is heard", at(19, 0, 1))
	for _, n := range []int{len(all) + 2, len(all) + 50, math.MaxInt} {
		r.silent("P16.3", func() { r.steps("P16.3: beyond the end", 80, 31, pull(n, 8, at(20, 0, 1))) })
	}
	r.last("P16.3: the stamp is heard first", at(20, 0, 1))
	last := len(all) + 1
	r.steps("P16.3: the record of the stamp is there", 80, 31, pull(last, 8, at(40, 0, 1)), api.Msg{Kind: api.MBatch, N: last, Recs: []api.Rec{ceil(56)}})
	r.steps("P16.3: beyond the end but for its record", 80, 31, pull(last+2, 8, at(60, 0, 1)), api.Msg{Kind: api.MBatch, N: last + 2})
	r.fill(0)
	r.silent("P16.3", func() { r.steps("P16.3: the stamp can't be heard", 80, 31, pull(1, 8, at(77, 0, 1))) })
	r.last("P16.3: the stamp can't be heard", at(60, 0, 1))
	r.steps("P16.3: the stamp needs no room", 80, 31, pull(1, 1, at(76, 0, 1)), api.Msg{Kind: api.MBatch, N: 1, Recs: all[:1]})
}

// P16.3: MTook.
func TestTook(t *testing.T) {
	r := busy(t)
	same(t, "P16.6", r.n.Split(6, 0.25, 3), api.OK)
	r.fill(r.sized(taking(2)) - 1)
	r.silent("P16.3", func() { r.steps("P16.3: no room", 5, 2, took(2)) })
	same(t, "P16.3: not taken", r.n.Hands(), []int{2, 3})
	r.free()
	r.steps("P16.3", 5, 32, took(3))
	r.logs("P16.3", taking(3))
	same(t, "P16.3", r.n.Hands(), []int{2})
	r.silent("P16.3", func() {
		for _, id := range []int{3, 1, 4, 12} {
			r.steps("P16.3: no kid, or taken already", 5, id, took(id))
		}
	})
	same(t, "P16.3", r.n.Hands(), []int{2})
	r.steps("P16.3", 5, 2, took(2))
	r.logs("P16.3", taking(3), taking(2))
	same(t, "P16.3", r.n.Hands(), []int{})
	same(t, "P16.5: Info has the kids that were taken", r.n.Info(), []api.Range{{ID: 1, Epoch: 2, Hi: 0.25}, upper, {ID: 3, Lo: 0.25, Hi: 0.5}})
}

// P16.3: MHand.
func TestHand(t *testing.T) {
	s := api.State{Range: upper, Floor: at(9, 8, 7), Closed: at(5, 4, 3), Histories: []api.History{once(highA, at(1, 0, 1), 1)}, Pending: []api.Pending{{Txn: t1, Stamp: at(2, 0, 1), Reads: []string{highD}}}}
	r := raw(t, disk.New(), 2)
	r.fill(r.sized(birth(s)) - 1)
	r.silent("P16.3", func() { r.steps("P16.3: no room", 0, 1, give(s)) })
	zero(t, "P16.3", r.n, false)
	tooLong := s
	tooLong.Histories = slices.DeleteFunc(many(6000), func(h api.History) bool { return place.Of(h.Key) < 0.5 })
	r.free()
	r.silent("P16.3", func() { r.steps("P16.3: too long for a log", 0, 1, give(tooLong)) })
	zero(t, "P16.3", r.n, false)
	r.steps("P16.3", 0, 1, give(s), api.Msg{Kind: api.MTook})
	r.logs("P16.3", birth(s))
	stands(t, "P16.3", r.n, s, []api.Range{upper}, nil, 0)
	r.last("P16.2", at(9, 8, 2))
	r.silent("P16.3: born already", func() {
		for _, other := range []api.State{s, {Range: upper}, {Range: api.Range{ID: 2, Epoch: 5, Hi: 0.25}, Floor: at(99, 0, 0)}, tooLong} {
			r.steps("P16.3: born already", 0, 5, give(other), api.Msg{Kind: api.MTook})
		}
	})
	stands(t, "P16.3", r.n, s, []api.Range{upper}, nil, 0)
}
