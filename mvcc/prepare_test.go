package mvcc_test

import (
	"testing"

	"headrace/api"
	"headrace/mvcc"
)

// seenOf is what a transaction has seen if it saw the newest version of each key that it reads.
func seenOf(s *mvcc.Store, p api.Pending) []api.Seen {
	var l []api.Seen
	for _, key := range p.Reads {
		l = append(l, s.Newest(key))
	}
	return l
}

// holdPrepare holds Prepare to an error, and beside one to changing nothing.
func holdPrepare(t *testing.T, s *mvcc.Store, p api.Pending, seen []api.Seen, e api.Errno) {
	t.Helper()
	before := whole(s)
	if f := s.Prepare(p, seen); f != e {
		t.Errorf("P10.3: Prepare(%.300s, %.300s) is %d, not %d", text(p), text(seen), f, e)
	}
	if after := whole(s); e != api.OK && after != before {
		t.Errorf("P10.3: Prepare with an error changes %s to %s", before, after)
	}
}

// P10.3

// crowded returns a store with versions, a pending transaction that reads r and writes w, and Low at 7.
func crowded(t *testing.T) *mvcc.Store {
	t.Helper()
	s := load(t, []api.History{history("a", 3, 8), history("g", -4), history("r", 2), history("w", 2)}, prepared(1, 9, "r", "w"))
	holdRead(t, s, "z", moment(7), look("z", 0), moment(7))
	return s
}

func TestPrepareOfRightOnes(t *testing.T) {
	for _, c := range []struct {
		p    api.Pending
		seen []api.Seen
	}{
		{prepared(2, 9, "", "a"), nil}, {prepared(2, 9, "", "b"), []api.Seen{}}, {prepared(2, 8, "a", ""), []api.Seen{look("a", 8)}}, {prepared(2, 8, "b", ""), []api.Seen{look("b", 0)}},
		{prepared(2, 8, "g", "g"), []api.Seen{look("g", -4)}}, {prepared(2, 8, "r", ""), []api.Seen{look("r", 2)}}, {prepared(2, 8, "gr", "bcz"), []api.Seen{look("g", -4), look("r", 2)}},
		{prepared(2, 8, "", ""), nil}, {prepared(2, 1<<48, "az", "az"), []api.Seen{look("a", 8), look("z", 0)}},
		// It is above Low by a number of a stamp other than the Wall.
		{api.Pending{Txn: numbered(2), Stamp: api.Stamp{Wall: 7, Node: 2}, Writes: writing("b", words("x"))}, nil}, {api.Pending{Txn: numbered(2), Stamp: api.Stamp{Wall: 7, Logical: 1}}, nil},
	} {
		s := crowded(t)
		holdPrepare(t, s, c.p, c.seen, api.OK)
		if got, has := s.Has(c.p.Txn); !has || text(got) != text(c.p) {
			t.Errorf("P10.5: Has(%v) is %v, %t", c.p.Txn, got, has)
		}
		holdPrepare(t, s, c.p, c.seen, api.ErrTwice)
	}
}

func TestPrepareIgnoresTheValuesOfSeen(t *testing.T) {
	for _, v := range append(badValues(), goodValues()...) {
		s := crowded(t)
		holdPrepare(t, s, prepared(2, 9, "ab", "a"), []api.Seen{{Key: "a", Value: v, Stamp: moment(8)}, {Key: "b", Value: v}}, api.OK)
		holdPrepare(t, s, prepared(3, 9, "g", ""), []api.Seen{{Key: "g", Value: v, Stamp: moment(5)}}, api.ErrStale)
	}
}

func TestPrepareOfWrongOnes(t *testing.T) {
	for _, c := range wrongPendings() {
		s := crowded(t)
		holdPrepare(t, s, c.p, nil, c.e)
		var seen []api.Seen
		for _, key := range c.p.Reads {
			seen = append(seen, look(key, 0))
		}
		holdPrepare(t, s, c.p, seen, c.e)
	}
}

func TestPrepareOfOtherKeysThanSeen(t *testing.T) {
	a, b, c := look("a", 8), look("b", 0), look("c", 0)
	for _, x := range []struct {
		reads string
		seen  []api.Seen
	}{
		{"", []api.Seen{a}}, {"a", nil}, {"a", []api.Seen{b}}, {"a", []api.Seen{a, a}}, {"a", []api.Seen{a, b}}, {"ab", []api.Seen{a}}, {"ab", []api.Seen{b}}, {"ab", []api.Seen{b, a}},
		{"ab", []api.Seen{a, c}}, {"ab", []api.Seen{a, b, c}}, {"abc", []api.Seen{a, c, b}}, {"abc", []api.Seen{a, b}}, {"abc", []api.Seen{b, c}}, {"a", []api.Seen{{Stamp: moment(8)}}}, {"a", []api.Seen{{Key: "aa", Stamp: moment(8)}}},
	} {
		holdPrepare(t, crowded(t), prepared(2, 20, x.reads, "d"), x.seen, api.ErrForm)
	}
	// The keys that are written are not asked for.
	holdPrepare(t, crowded(t), prepared(2, 20, "a", "d"), []api.Seen{a, look("d", 0)}, api.ErrForm)
	holdPrepare(t, crowded(t), prepared(2, 20, "", "d"), []api.Seen{look("d", 0)}, api.ErrForm)
}

func TestPrepareTwice(t *testing.T) {
	s := crowded(t)
	holdPrepare(t, s, prepared(1, 20, "", "b"), nil, api.ErrTwice)
	holdPrepare(t, s, prepared(1, 9, "r", "w"), []api.Seen{look("r", 2)}, api.ErrTwice)
	// The number alone counts, and all of it.
	for _, x := range []api.Txn{{Coord: 2, Life: 1, Seq: 1}, {Coord: 1, Life: 2, Seq: 1}, {Coord: 1, Life: 1, Seq: 2}} {
		holdPrepare(t, s, api.Pending{Txn: x, Stamp: moment(9)}, nil, api.OK)
	}
	want(t, "P10.4: Resolve", s.Resolve(numbered(1), false, api.Stamp{}), api.OK)
	holdPrepare(t, s, prepared(1, 20, "", "w"), nil, api.OK)
}

func TestPrepareAtLow(t *testing.T) {
	for _, at := range []api.Stamp{moment(7), {Wall: 7}, moment(6), {Wall: 6, Logical: 65535, Node: 63}, {Node: 1}} {
		for _, keys := range []string{"", "b", "z"} {
			holdPrepare(t, crowded(t), api.Pending{Txn: numbered(2), Stamp: at, Writes: writing(keys, number(1))}, nil, api.ErrOld)
		}
		// Readers as well.
		holdPrepare(t, crowded(t), api.Pending{Txn: numbered(2), Stamp: at, Reads: letters("a")}, []api.Seen{look("a", 8)}, api.ErrOld)
	}
	// Nothing was read: each stamp is above Low.
	holdPrepare(t, mvcc.New(), api.Pending{Txn: numbered(2), Stamp: api.Stamp{Node: 1}, Writes: writing("b", number(1))}, nil, api.OK)
}

func TestPrepareOfLockedKeys(t *testing.T) {
	for _, c := range []struct{ reads, writes string }{{"", "w"}, {"", "r"}, {"w", ""}, {"w", "w"}, {"r", "r"}, {"", "abw"}, {"", "br"}, {"aw", "b"}, {"arw", ""}} {
		s := crowded(t)
		p := prepared(2, 20, c.reads, c.writes)
		holdPrepare(t, s, p, seenOf(s, p), api.ErrLocked)
		// Whatever it becomes, what was pending locks no more.
		for _, commit := range []bool{true, false} {
			s := crowded(t)
			want(t, "P10.4: Resolve", s.Resolve(numbered(1), commit, moment(19)), api.OK)
			holdPrepare(t, s, p, seenOf(s, p), api.OK)
		}
	}
}

func TestPrepareUnderMoreThanOneReader(t *testing.T) {
	s := mvcc.New()
	for i := range 3 {
		holdPrepare(t, s, prepared(i+1, 5, "r", ""), []api.Seen{{Key: "r"}}, api.OK)
	}
	for i := range 3 {
		holdPrepare(t, s, prepared(9, 6, "", "r"), nil, api.ErrLocked)
		want(t, "P10.4: Resolve", s.Resolve(numbered((i+1)%3+1), i == 1, moment(5)), api.OK)
	}
	holdPrepare(t, s, prepared(9, 6, "", "r"), nil, api.OK)
}

func TestPrepareUnderOneThatReadsAndWritesAKey(t *testing.T) {
	for _, commit := range []bool{true, false} {
		s := mvcc.New()
		holdPrepare(t, s, prepared(1, 5, "a", "a"), []api.Seen{{Key: "a"}}, api.OK)
		holdPrepare(t, s, prepared(2, 6, "a", ""), []api.Seen{{Key: "a"}}, api.ErrLocked)
		holdPrepare(t, s, prepared(2, 6, "", "a"), nil, api.ErrLocked)
		want(t, "P10.4: Resolve", s.Resolve(numbered(1), commit, moment(5)), api.OK)
		holdPrepare(t, s, prepared(2, 6, "", "a"), nil, api.OK)
	}
}

func TestPrepareOfStaleLooks(t *testing.T) {
	for _, c := range []struct {
		reads string
		seen  []api.Seen
	}{
		{"a", []api.Seen{look("a", 3)}}, {"a", []api.Seen{look("a", 9)}}, {"a", []api.Seen{look("a", 0)}}, {"b", []api.Seen{look("b", 1)}}, {"g", []api.Seen{look("g", 0)}},
		{"ab", []api.Seen{look("a", 8), look("b", 1)}}, {"ab", []api.Seen{look("a", 7), look("b", 0)}}, {"r", []api.Seen{look("r", 1)}},
		{"a", []api.Seen{{Key: "a", Stamp: api.Stamp{Wall: 8}}}}, {"a", []api.Seen{{Key: "a", Stamp: api.Stamp{Wall: 8, Logical: 1, Node: 1}}}}, {"b", []api.Seen{{Key: "b", Stamp: api.Stamp{Node: -1}}}},
	} {
		holdPrepare(t, crowded(t), prepared(2, 20, c.reads, "d"), c.seen, api.ErrStale)
		holdPrepare(t, crowded(t), prepared(2, 20, c.reads, ""), c.seen, api.ErrStale)
	}
}

func TestPrepareBelowVersions(t *testing.T) {
	for _, at := range []api.Stamp{moment(8), {Wall: 8}, {Wall: 7, Logical: 1}} {
		for _, keys := range []string{"a", "ab", "Aa"} {
			holdPrepare(t, crowded(t), api.Pending{Txn: numbered(2), Stamp: at, Writes: writing(keys, number(1))}, nil, api.ErrOld)
		}
		holdPrepare(t, crowded(t), api.Pending{Txn: numbered(2), Stamp: at, Reads: letters("a"), Writes: writing("b", number(1))}, []api.Seen{look("a", 8)}, api.OK)
	}
	holdPrepare(t, crowded(t), api.Pending{Txn: numbered(2), Stamp: api.Stamp{Wall: 8, Node: 2}, Writes: writing("a", number(1))}, nil, api.OK)
}

func TestPrepareTellsTheFirstError(t *testing.T) {
	stale, other := []api.Seen{look("a", 3)}, []api.Seen{look("b", 0)}
	for _, c := range []struct {
		p    api.Pending
		seen []api.Seen
		e    api.Errno
	}{
		{api.Pending{Txn: numbered(1), Reads: letters("a"), Writes: writing("w", number(1))}, other, api.ErrStamp},
		{prepared(1, 1, "a", "w"), other, api.ErrForm}, {prepared(2, 1, "a", "w"), other, api.ErrForm}, {prepared(2, 8, "a", "aw"), other, api.ErrForm},
		{prepared(1, 1, "a", "w"), stale, api.ErrTwice}, {prepared(1, 8, "a", "a"), stale, api.ErrTwice},
		{prepared(2, 7, "a", "aw"), stale, api.ErrOld}, {prepared(2, 7, "a", ""), stale, api.ErrOld},
		{prepared(2, 8, "a", "aw"), stale, api.ErrLocked}, {prepared(2, 8, "a", "ar"), stale, api.ErrLocked}, {prepared(2, 8, "w", "a"), []api.Seen{look("w", 1)}, api.ErrLocked},
		{prepared(2, 8, "a", "a"), stale, api.ErrStale}, {prepared(2, 8, "a", "a"), []api.Seen{look("a", 8)}, api.ErrOld},
	} {
		holdPrepare(t, crowded(t), c.p, c.seen, c.e)
	}
}
