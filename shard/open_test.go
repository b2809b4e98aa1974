package shard_test

import (
	"math"
	"testing"

	"headrace/api"
	"headrace/disk"
	"headrace/shard"
	"headrace/wal"
)

// Records of a log.

func birth(s api.State) api.Rec { return api.Rec{Kind: api.RBirth, State: s} }
func ceil(n int) api.Rec        { return api.Rec{Kind: api.RCeil, N: n} }
func closing(s api.Stamp) api.Rec {
	return api.Rec{Kind: api.RClose, Stamp: s}
}
func split(point float64, child int, s api.Stamp) api.Rec {
	return api.Rec{Kind: api.RSplit, Point: point, N: child, Stamp: s}
}
func taking(child int) api.Rec { return api.Rec{Kind: api.RTook, N: child} }
func preparing(t api.Txn, s api.Stamp, reads []string, writes []api.Write) api.Rec {
	return api.Rec{Kind: api.RPrepare, Txn: t, Stamp: s, Reads: reads, Writes: writes, Parts: []int{1, 2, 5}}
}
func committing(t api.Txn, s api.Stamp) api.Rec {
	return api.Rec{Kind: api.RDecide, Txn: t, Commit: true, Stamp: s}
}
func aborting(t api.Txn) api.Rec { return api.Rec{Kind: api.RDecide, Txn: t} }

// fails holds an Open to an error.
func fails(t *testing.T, what string, d *disk.Disk, id, segment int, want api.Errno) {
	t.Helper()
	if n, e := shard.Open(d, id, segment); n != nil || e != want {
		t.Fatalf("%s: a node %t, error %d, not %d", what, n != nil, e, want)
	}
}

// P16.1
func TestOpenErrors(t *testing.T) {
	for _, id := range []int{0, -1, 13, 21, 31, math.MinInt, math.MaxInt} {
		d := disk.New()
		fails(t, "P16.1: the ID", d, id, 64, api.ErrRange)
		if len(d.List()) > 0 {
			t.Errorf("P16.1: a wrong ID leaves %q", d.List())
		}
		d.Create("x")
		d.Arm(1)
		d.Create("y")
		fails(t, "P16.1: the ID is told ahead of the log's error", d, id, 64, api.ErrRange)
	}
	for _, segment := range []int{0, 63, api.MaxRecord + 1} {
		fails(t, "P16.1: the error of wal.Open", disk.New(), 1, segment, api.ErrRange)
	}
	for id := 1; id <= 12; id++ {
		for _, segment := range []int{64, api.MaxRecord} {
			if n, e := shard.Open(disk.New(), id, segment); n == nil || e != api.OK {
				t.Errorf("P16.1: ID %d, segment %d: error %d", id, segment, e)
			}
		}
	}
	d := disk.New()
	d.Arm(1)
	fails(t, "P16.1: the disk falls", d, 1, 64, api.ErrDown)
	fails(t, "P16.1: the disk is down", d, 1, 64, api.ErrDown)
	d = disk.New()
	for i := range api.MaxFiles {
		d.Create(string(rune('0' + i)))
	}
	fails(t, "P16.1: no room for a segment", d, 1, 64, api.ErrMany)
	d = disk.New()
	d.Create("log.00000001")
	d.Create("log.00000003")
	fails(t, "P16.1: a segment is missing", d, 1, 64, api.ErrCorrupt)
}

// corrupt lists logs that no node writes, by what is wrong with them.
func corrupt() map[string][]api.Rec {
	b := birth(api.State{Range: whole})
	p := preparing(t1, at(5, 0, 1), []string{lowE}, puts(1, lowB))
	s := split(0.5, 2, at(5, 0, 1))
	half := birth(api.State{Range: api.Range{ID: 1, Hi: 0.5}})
	outside := preparing(t1, at(5, 0, 1), nil, puts(1, highA))
	pending := birth(api.State{Range: whole, Pending: []api.Pending{{Txn: t1, Stamp: at(4, 0, 1), Writes: puts(1, lowB)}}})
	older := birth(api.State{Range: whole, Histories: []api.History{once(lowB, at(5, 0, 1), 1)}})
	return map[string][]api.Rec{
		"a birth of another ID": {birth(api.State{Range: upper})},
		"no birth":              {ceil(4)}, "no birth, but a prepare": {p}, "no birth, but a close": {closing(at(5, 0, 1))}, "no birth, but a split": {s}, "no birth, but a took": {taking(2)}, "a birth too late": {ceil(4), b}, "a boot first": {{Kind: api.RBoot, N: 1}},
		"two births": {b, b}, "two births, of two IDs": {b, birth(api.State{Range: upper})},
		"a boot": {b, {Kind: api.RBoot, N: 1}}, "a commit": {b, {Kind: api.RCommit, Txn: t1, Stamp: at(5, 0, 1), Parts: []int{1}}}, "an end": {b, {Kind: api.REnd, Txn: t1}},
		"an apply": {b, {Kind: api.RApply, Stamp: at(5, 0, 1), Txn: t1, Writes: puts(1, "a")}}, "a base": {b, {Kind: api.RBase, Stamp: at(5, 0, 1)}},
		"prepared twice": {b, p, p}, "prepared and pending from birth on": {pending, p},
		"a key that is locked": {b, p, preparing(t2, at(6, 0, 1), nil, puts(1, lowE))}, "a key that is locked to be read": {b, p, preparing(t2, at(6, 0, 1), []string{lowB}, nil)},
		"a key with a later version": {older, preparing(t1, at(5, 0, 1), nil, puts(1, lowB))},
		"nothing to be decided":      {b, aborting(t1)}, "decided twice": {b, p, aborting(t1), aborting(t1)}, "committed twice": {b, p, committing(t1, at(5, 0, 1)), committing(t1, at(5, 0, 1))},
		"committed too early": {b, p, committing(t1, at(5, 0, 0))},
		"split to itself":     {b, split(0.5, 1, at(5, 0, 1))}, "split at its end": {half, s}, "split beyond": {half, split(0.75, 2, at(5, 0, 1))},
		"two kids of one ID": {b, s, split(0.25, 2, at(5, 0, 1))}, "the ID of a kid that was taken": {b, s, taking(2), split(0.25, 2, at(5, 0, 1))},
		"split at the ceiling's end": {b, ceil(api.MaxWall), s}, "split with a key outside": {half, outside, split(0.25, 2, at(5, 0, 1))},
		"no such kid": {b, taking(2)}, "another kid": {b, s, taking(3)}, "taken twice": {b, s, taking(2), taking(2)}, "taken before it was split off": {b, taking(2), s},
	}
}

// P16.1
func TestOpenOfCorruptLogs(t *testing.T) {
	for what, l := range corrupt() {
		fails(t, "P16.1: "+what, written(t, l...), 1, 4096, api.ErrCorrupt)
		// What comes after doesn't mend it.
		fails(t, "P16.1: "+what+", and more", written(t, append(l, ceil(40))...), 1, 4096, api.ErrCorrupt)
	}
	b := encoded(t, birth(api.State{Range: whole}))
	for _, bad := range [][]byte{nil, {0}, {1, 2, 3}, encoded(t, ceil(4))[:1], append(encoded(t, ceil(4)), 0)} {
		for _, l := range [][][]byte{{bad}, {b, bad}, {b, bad, b}} {
			d := disk.New()
			book, _ := wal.Open(d, "log", 64)
			for _, one := range l {
				book.Append(one)
			}
			book.Sync()
			fails(t, "P16.1: recs.Decode refuses a record", d, 1, 64, api.ErrCorrupt)
		}
	}
}

// P16.1: what each kind of record does.
func TestOpenAppliesRecords(t *testing.T) {
	s := api.State{Range: whole, Floor: at(2, 0, 0), Closed: at(3, 4, 5), Histories: []api.History{once(highA, at(1, 0, 1), 1), once(lowB, at(1, 0, 2), nan)}, Pending: []api.Pending{{Txn: t2, Stamp: at(2, 2, 1), Reads: []string{lowE}}}}
	b := birth(s)
	p := preparing(t1, at(5, 0, 1), []string{highA, lowB}, puts(7, lowB, highD))
	with := func(change func(s *api.State)) api.State {
		x := s
		change(&x)
		return x
	}
	closed := func(stamp api.Stamp) api.State { return with(func(s *api.State) { s.Closed = stamp }) }
	halved := with(func(s *api.State) { s.Range, s.Histories = lower, s.Histories[1:] })
	decided := with(func(s *api.State) {
		s.Histories = []api.History{once(highA, at(1, 0, 1), 1), once(lowB, at(1, 0, 2), nan), once(highD, at(6, 0, 2), 7)}
		s.Histories[1].Versions = append(s.Histories[1].Versions, api.Version{Stamp: at(6, 0, 2), Value: number(7)})
	})
	for _, c := range []struct {
		what    string
		l       []api.Rec
		s       api.State
		hands   []int
		ceiling int
	}{
		{"RBirth", []api.Rec{b}, s, nil, 0},
		{"RCeil", []api.Rec{b, ceil(7)}, s, nil, 7},
		{"RCeil, a greater one", []api.Rec{b, ceil(7), ceil(9)}, s, nil, 9},
		{"RCeil, a lesser one", []api.Rec{b, ceil(9), ceil(0)}, s, nil, 9},
		{"RClose", []api.Rec{b, closing(at(3, 4, 6))}, closed(at(3, 4, 6)), nil, 0},
		{"RClose, an earlier one", []api.Rec{b, closing(at(3, 4, 4))}, s, nil, 0},
		{"RClose, and an earlier one", []api.Rec{b, closing(at(9, 0, 1)), closing(at(8, 0, 1))}, closed(at(9, 0, 1)), nil, 0},
		{"RPrepare", []api.Rec{b, p}, with(func(s *api.State) {
			s.Pending = []api.Pending{{Txn: t1, Stamp: at(5, 0, 1), Reads: p.Reads, Writes: p.Writes}, s.Pending[0]}
		}), nil, 0},
		{"RDecide", []api.Rec{b, p, aborting(t1)}, s, nil, 0},
		{"RDecide with Commit", []api.Rec{b, p, committing(t1, at(6, 0, 2))}, decided, nil, 0},
		{"RDecide of what is pending from birth on", []api.Rec{b, aborting(t2)}, with(func(s *api.State) { s.Pending = nil }), nil, 0},
		{"RSplit", []api.Rec{b, split(0.5, 2, at(9, 0, 1))}, halved, []int{2}, 0},
		{"RTook", []api.Rec{b, split(0.5, 2, at(9, 0, 1)), taking(2)}, halved, nil, 0},
	} {
		r := raw(t, written(t, c.l...), 1)
		info := []api.Range{c.s.Range}
		if c.s.Range == lower {
			info = append(info, upper)
		}
		what := "P16.1: " + c.what
		r.silent(what, func() { r.open() })
		stands(t, what, r.n, c.s, info, c.hands, c.ceiling)
	}
}

// P16.1: a kid is that of P16.6, with the ceiling of its time.
func TestOpenSplits(t *testing.T) {
	r := raw(t, written(t, birth(api.State{Range: whole, Histories: []api.History{once(highA, at(1, 0, 1), 1)}}), ceil(7), preparing(t1, at(5, 0, 1), []string{lowB}, puts(7, highD)), split(0.5, 2, at(6, 0, 1)), ceil(90), split(0.25, 3, at(80, 0, 1))), 1)
	l, e := r.n.Tick(0)
	same(t, "P16.4", e, api.OK)
	two := api.State{Range: upper, Floor: at(8, 0, 0), Closed: at(6, 0, 1), Histories: []api.History{once(highA, at(1, 0, 1), 1)}, Pending: []api.Pending{{Txn: t1, Stamp: at(5, 0, 1), Writes: puts(7, highD)}}}
	three := api.State{Range: api.Range{ID: 3, Lo: 0.25, Hi: 0.5}, Floor: at(91, 0, 0), Closed: at(80, 0, 1), Pending: []api.Pending{{Txn: t1, Stamp: at(5, 0, 1), Reads: []string{lowB}}}}
	first, second, third := handing(two), handing(three), ask(21, t1)
	first.From, second.From, third.From = 1, 1, 1
	same(t, "P16.1: RSplit", l, []api.Msg{first, second, third})
}

// P16.1: the clock after an Open.
func TestOpenSetsTheClock(t *testing.T) {
	b := birth(api.State{Range: whole})
	low := birth(api.State{Range: whole, Floor: at(5, 9, 63)})
	p := preparing(t1, at(1, 0, 1), nil, puts(1, "a"))
	for _, c := range []struct {
		what string
		l    []api.Rec
		want api.Stamp
	}{
		{"no ceiling", []api.Rec{b}, at(1, 0, 1)},
		{"a ceiling of 0", []api.Rec{b, ceil(0)}, at(1, 0, 1)},
		{"a ceiling", []api.Rec{b, ceil(7)}, at(8, 0, 1)},
		{"no ceiling, but a floor", []api.Rec{low}, at(5, 9, 1)},
		{"a ceiling below the floor", []api.Rec{low, ceil(3)}, at(5, 9, 1)},
		{"a ceiling right below the floor", []api.Rec{low, ceil(4)}, at(5, 9, 1)},
		{"a ceiling at the floor", []api.Rec{low, ceil(5)}, at(6, 0, 1)},
		{"a close", []api.Rec{low, closing(at(50, 0, 1))}, at(5, 9, 1)},
		{"a split", []api.Rec{low, split(0.5, 2, at(50, 0, 1))}, at(5, 9, 1)},
		{"a ceiling near its end", []api.Rec{b, ceil(api.MaxWall - 1)}, at(api.MaxWall, 0, 1)},
		{"a ceiling at its end", []api.Rec{b, ceil(api.MaxWall)}, at(api.MaxWall, api.MaxLogical, 1)},
		{"a commit", []api.Rec{b, ceil(7), p, committing(t1, at(30, 4, 50))}, at(30, 4, 1)},
		{"a commit below the ceiling", []api.Rec{b, ceil(7), p, committing(t1, at(7, 4, 50))}, at(8, 0, 1)},
		{"a commit at the ceiling's end", []api.Rec{b, p, committing(t1, at(1, 4, 50))}, at(1, 4, 1)},
		{"no commit", []api.Rec{b, ceil(7), p, aborting(t1)}, at(8, 0, 1)},
		{"a prepare", []api.Rec{b, preparing(t1, at(40, 0, 1), nil, nil)}, at(1, 0, 1)},
		{"two commits", []api.Rec{b, p, committing(t1, at(30, 4, 50)), preparing(t2, at(2, 0, 1), nil, nil), committing(t2, at(3, 9, 50))}, at(30, 4, 1)},
		{"two commits with one Wall", []api.Rec{b, p, committing(t1, at(30, 4, 50)), preparing(t2, at(2, 0, 1), nil, nil), committing(t2, at(30, 5, 2))}, at(30, 5, 1)},
	} {
		r := raw(t, written(t, c.l...), 1)
		r.last("P16.1: "+c.what, c.want)
	}
	r := raw(t, written(t, birth(api.State{Range: upper}), ceil(7)), 2)
	r.ticks("P16.1: the clock's node is the ID", 0)
	same(t, "P16.4", r.n.State().Closed, at(8, 1, 2))
}

// P16.1, P16.3: what was decided is done after an Open, and what was pending at birth is not.
func TestOpenKnowsWhatIsDone(t *testing.T) {
	b := birth(api.State{Range: whole, Pending: []api.Pending{{Txn: t3, Stamp: at(1, 0, 1)}}})
	r := raw(t, written(t, b, preparing(t1, at(1, 0, 1), nil, nil), aborting(t1), preparing(t2, at(1, 0, 1), nil, nil), committing(t2, at(2, 0, 1))), 1)
	r.silent("P16.3", func() {
		r.steps("P16.3: aborted", 5, 21, prepare(t1, at(4, 0, 21), nil, nil))
		r.steps("P16.3: committed", 5, 22, prepare(t2, at(4, 0, 21), nil, nil))
		r.steps("P16.3: pending", 5, 22, prepare(t3, at(4, 0, 21), nil, nil), vote(api.OK, at(1, 0, 1)))
	})
	r.steps("P16.3: new", 5, 22, prepare(txn(4), at(4, 0, 21), nil, nil), vote(api.OK, at(5, 0, 1)))
}

// P16.1: the first record is the first one that the log has, whatever its number is.
func TestOpenOfALogWithoutItsBeginning(t *testing.T) {
	d := written(t, birth(api.State{Range: whole}), ceil(7))
	d.Rename("log.00000001", "log.00000009")
	r := raw(t, d, 1)
	stands(t, "P16.1", r.n, api.State{Range: whole}, []api.Range{whole}, nil, 7)
	d = written(t, birth(api.State{Range: whole}), ceil(7))
	book, _ := wal.Open(d, "log", 64)
	for range 9 {
		book.Append(encoded(t, ceil(8)))
	}
	book.Trim(math.MaxInt)
	fails(t, "P16.1: a log that was trimmed", d, 1, 64, api.ErrCorrupt)
}

// P16.1, P16.2: a node whose log has nothing is not born, and Open writes nothing but what the log does.
func TestOpenOfNothing(t *testing.T) {
	d := disk.New()
	r := raw(t, d, 3)
	zero(t, "P16.1", r.n, false)
	same(t, "P16.1: the disk", d.Files(), []api.File{{Name: "log.00000001"}})
	same(t, "P16.1: Writes", d.Writes(), 1)
	r.again()
	zero(t, "P16.1", r.n, false)
	same(t, "P16.2", r.n.Begin(api.State{Range: api.Range{ID: 3, Hi: 1}}), api.OK)
}
