package mvcc_test

import (
	"fmt"
	"math"
	"testing"

	"headrace/api"
	"headrace/mvcc"
)

// text shows lists and structs, so that a list without elements is as nil, and minus zero and NaN are told from others.
func text(x any) string { return fmt.Sprintf("%+v", x) }

// whole shows all that a store tells of itself.
func whole(s *mvcc.Store) string {
	return text(s.Histories()) + text(s.Pending()) + text(s.Low())
}

// want holds what an error is.
func want(t *testing.T, what string, got, e api.Errno) {
	t.Helper()
	if got != e {
		t.Errorf("%s is %d, not %d", what, got, e)
	}
}

// load returns a store that must be loaded.
func load(t *testing.T, l []api.History, p ...api.Pending) *mvcc.Store {
	t.Helper()
	s, e := mvcc.Load(l, p)
	if s == nil || e != api.OK {
		t.Fatalf("P10.1: Load(%v, %v) is %d", l, p, e)
	}
	return s
}

// history has a version at each of the walls: the number of the wall, or None where the wall is negative.
func history(key string, walls ...int) api.History {
	h := api.History{Key: key}
	for _, wall := range walls {
		v := api.Version{Stamp: moment(wall), Value: number(float64(wall))}
		if wall < 0 {
			v = api.Version{Stamp: moment(-wall)}
		}
		h.Versions = append(h.Versions, v)
	}
	return h
}

// look is what is seen of a key of which the version at the wall is the newest; at 0 there is none.
func look(key string, wall int) api.Seen {
	switch {
	case wall == 0:
		return api.Seen{Key: key}
	case wall < 0:
		return api.Seen{Key: key, Stamp: moment(-wall)}
	default:
		return api.Seen{Key: key, Stamp: moment(wall), Value: number(float64(wall))}
	}
}

// holdRead holds Read to what is seen, and Low to what it becomes by it.
func holdRead(t *testing.T, s *mvcc.Store, key string, at api.Stamp, seen api.Seen, low api.Stamp) {
	t.Helper()
	if got, e := s.Read(key, at); text(got) != text(seen) || e != api.OK {
		t.Errorf("P10.2: Read(%q, %v) is %v, %d, not %v", key, at, got, e, seen)
	}
	if s.Low() != low {
		t.Errorf("P10.2: Low is %v after Read(%q, %v), not %v", s.Low(), key, at, low)
	}
}

// holdNoRead holds Read to an error, and to changing nothing.
func holdNoRead(t *testing.T, s *mvcc.Store, key string, at api.Stamp, e api.Errno) {
	t.Helper()
	before := whole(s)
	if got, f := s.Read(key, at); got != (api.Seen{}) || f != e {
		t.Errorf("P10.2: Read(%q, %v) is %v, %d, not %d", key, at, got, f, e)
	}
	if whole(s) != before {
		t.Errorf("P10.2: Read(%q, %v) with an error changes %s to %s", key, at, before, whole(s))
	}
}

func TestExamples(t *testing.T) {
	s := mvcc.New()
	seven := writing("a", number(7))
	holdRead(t, s, "a", moment(5), api.Seen{Key: "a"}, moment(5))
	want(t, "P10.3: Prepare at Low", s.Prepare(api.Pending{Txn: numbered(1), Stamp: moment(5), Writes: seven}, nil), api.ErrOld)
	want(t, "P10.3: Prepare", s.Prepare(api.Pending{Txn: numbered(1), Stamp: moment(6), Reads: letters("b"), Writes: seven}, []api.Seen{{Key: "b"}}), api.OK)
	holdNoRead(t, s, "a", moment(9), api.ErrLocked)
	holdRead(t, s, "a", moment(5), api.Seen{Key: "a"}, moment(5))
	want(t, "P10.3: Prepare of a write to what is read", s.Prepare(prepared(2, 8, "", "b"), nil), api.ErrLocked)
	want(t, "P10.3: Prepare of a write to what is written", s.Prepare(prepared(2, 8, "", "a"), nil), api.ErrLocked)
	want(t, "P10.4: Resolve below the stamp", s.Resolve(numbered(1), true, moment(4)), api.ErrOld)
	want(t, "P10.4: Resolve", s.Resolve(numbered(1), true, moment(10)), api.OK)
	holdRead(t, s, "a", moment(9), api.Seen{Key: "a"}, moment(9))
	holdRead(t, s, "a", moment(10), api.Seen{Key: "a", Value: number(7), Stamp: moment(10)}, moment(10))
	last := api.Pending{Txn: numbered(3), Stamp: moment(12), Reads: letters("a")}
	want(t, "P10.3: Prepare of an old look", s.Prepare(last, []api.Seen{{Key: "a", Stamp: moment(9)}}), api.ErrStale)
	last.Writes = writing("a", api.Value{})
	want(t, "P10.3: Prepare", s.Prepare(last, []api.Seen{{Key: "a", Stamp: moment(10)}}), api.OK)
	if got := s.At(moment(11)); text(got) != text([]api.Pair{{Key: "a", Value: number(7)}}) {
		t.Errorf("P10.5: At(11) is %v", got)
	}
	want(t, "P10.4: Resolve", s.Resolve(numbered(3), true, moment(12)), api.OK)
	if got := s.At(moment(12)); len(got) != 0 {
		t.Errorf("P10.5: At(12) is %v", got)
	}
}

// P10.1

func TestNewIsEmpty(t *testing.T) {
	for _, s := range []*mvcc.Store{mvcc.New(), load(t, nil), load(t, []api.History{}, []api.Pending{}...)} {
		if len(s.Histories()) != 0 || len(s.Pending()) != 0 || len(s.At(moment(1<<40))) != 0 || s.Low() != (api.Stamp{}) || s.Newest("a") != (api.Seen{Key: "a"}) {
			t.Errorf("P10.1: an empty store has %s", whole(s))
		}
	}
	a, b := mvcc.New(), mvcc.New()
	want(t, "P10.3: Prepare", a.Prepare(prepared(1, 1, "", "a"), nil), api.OK)
	holdRead(t, a, "b", moment(3), api.Seen{Key: "b"}, moment(3))
	if whole(b) != whole(mvcc.New()) {
		t.Errorf("P10.1: another store has %s", whole(b))
	}
}

func TestLoadKeepsAll(t *testing.T) {
	var versions []api.Version
	for i, at := range goodStamps() {
		versions = append(versions, api.Version{Stamp: at, Value: goodValues()[i]})
	}
	var l []api.History
	for _, key := range goodKeys() {
		if key > "w" {
			l = append(l, api.History{Key: key, Versions: versions})
		}
	}
	l = append([]api.History{{Key: "\x00", Versions: versions[:1]}, history("x", 1, 2, -3, 4)}, l...)
	s := load(t, l, rightPendings()...)
	if text(s.Histories()) != text(l) || text(s.Pending()) != text(rightPendings()) || s.Low() != (api.Stamp{}) {
		t.Errorf("P10.1: a store that was loaded has %s", whole(s))
	}
	for _, v := range goodValues() {
		s := load(t, []api.History{{Key: "a", Versions: []api.Version{{Stamp: moment(1), Value: v}}}})
		if got := s.Newest("a").Value; text(got) != text(v) || math.Float64bits(got.Num) != math.Float64bits(v.Num) {
			t.Errorf("P10.1: the value %v becomes %v", v, got)
		}
	}
}

// holdNoLoad holds Load to an error.
func holdNoLoad(t *testing.T, l []api.History, p []api.Pending, e api.Errno) {
	t.Helper()
	if s, f := mvcc.Load(l, p); s != nil || f != e {
		t.Errorf("P10.1: Load(%.300s, %.300s) is %v, %d, not %d", text(l), text(p), s != nil, f, e)
	}
}

// wrongHistories lists lists of histories that Load refuses.
func wrongHistories() [][]api.History {
	l := [][]api.History{
		{{Key: "a"}}, {history("a", 1), {Key: "b"}}, {{Key: "a", Versions: []api.Version{}}, history("b", 1)},
		{history("b", 1), history("a", 1)}, {history("a", 1), history("a", 2)}, {history("a", 1), history("c", 1), history("b", 1)}, {history("aa", 1), history("a", 2)}, {history("a", 1), history("b", 1), history("a", 2)},
		{history("a", 2, 2)}, {history("a", 2, 1)}, {history("a", 1, 3, 2)}, {history("a", 1, 2, 2)}, {history("a", 1, 2, 1)}, {history("a", 1), history("b", 5, 4)},
		{{Key: "a", Versions: []api.Version{{Value: number(1)}}}}, {{Key: "a", Versions: []api.Version{{Value: number(1)}, {Stamp: moment(1)}}}},
	}
	for _, key := range badKeys() {
		l = append(l, []api.History{history(key, 1)}, []api.History{history("a", 1), history(key, 1)}, []api.History{history(key, 1), history("z", 1)})
	}
	for _, at := range badStamps() {
		l = append(l, []api.History{{Key: "a", Versions: []api.Version{{Stamp: at}}}})
		l = append(l, []api.History{{Key: "a", Versions: []api.Version{{Stamp: api.Stamp{Node: 1}}, {Stamp: at}}}})
		l = append(l, []api.History{{Key: "a", Versions: []api.Version{{Stamp: at}, {Stamp: goodStamps()[7]}}}})
	}
	for _, v := range badValues() {
		for i := range 3 {
			h := history("a", 1, 2, 3)
			h.Versions[i].Value = v
			l = append(l, []api.History{h}, []api.History{history("A", 1), h, history("b", 1)})
		}
	}
	return l
}

func TestLoadOfWrongHistories(t *testing.T) {
	for _, l := range wrongHistories() {
		holdNoLoad(t, l, nil, api.ErrForm)
		// All histories come ahead of all pending transactions.
		holdNoLoad(t, l, []api.Pending{{Txn: numbered(1)}}, api.ErrForm)
		holdNoLoad(t, l, []api.Pending{prepared(1, 1, "", "a"), prepared(1, 1, "", "a")}, api.ErrForm)
	}
}

func TestLoadOfWrongPendings(t *testing.T) {
	for _, c := range wrongPendings() {
		holdNoLoad(t, nil, []api.Pending{c.p}, c.e)
		holdNoLoad(t, []api.History{history("a", 1)}, []api.Pending{prepared(2, 5, "", "\x01"), c.p}, c.e)
		// What comes first is told first.
		holdNoLoad(t, nil, []api.Pending{prepared(2, 5, "", "a"), prepared(3, 5, "", "a"), c.p}, api.ErrLocked)
		holdNoLoad(t, nil, []api.Pending{prepared(2, 5, "", "a"), c.p, prepared(3, 5, "", "a")}, c.e)
	}
}

func TestLoadOfPendingsThatDoNotGoTogether(t *testing.T) {
	old := []api.History{history("o", 1, 5, 9)}
	for _, c := range []struct {
		p []api.Pending
		e api.Errno
	}{
		{[]api.Pending{prepared(1, 5, "", "a"), prepared(1, 5, "", "b")}, api.ErrTwice},
		{[]api.Pending{prepared(1, 5, "", "a"), prepared(2, 5, "", "b"), prepared(1, 6, "", "")}, api.ErrTwice},
		{[]api.Pending{prepared(1, 5, "", "a"), prepared(2, 5, "", "a")}, api.ErrLocked},
		{[]api.Pending{prepared(1, 5, "a", ""), prepared(2, 5, "", "a")}, api.ErrLocked},
		{[]api.Pending{prepared(1, 5, "", "a"), prepared(2, 5, "a", "")}, api.ErrLocked},
		{[]api.Pending{prepared(1, 5, "", "abc"), prepared(2, 5, "", "def"), prepared(3, 5, "g", "Ae")}, api.ErrLocked},
		{[]api.Pending{prepared(1, 5, "", "abc"), prepared(2, 5, "xyz", "def"), prepared(3, 5, "Ab", "g")}, api.ErrLocked},
		{[]api.Pending{prepared(1, 5, "abc", ""), prepared(2, 5, "bcd", ""), prepared(3, 5, "", "d")}, api.ErrLocked},
		{[]api.Pending{prepared(1, 9, "", "o")}, api.ErrOld}, {[]api.Pending{prepared(1, 8, "", "o")}, api.ErrOld}, {[]api.Pending{prepared(1, 1, "", "no")}, api.ErrOld}, {[]api.Pending{prepared(1, 3, "", "op")}, api.ErrOld},
		// ErrTwice, then ErrLocked, then ErrOld
		{[]api.Pending{prepared(1, 10, "", "o"), prepared(1, 5, "", "o")}, api.ErrTwice},
		{[]api.Pending{prepared(1, 10, "", "o"), prepared(2, 5, "", "o")}, api.ErrLocked},
		{[]api.Pending{prepared(1, 10, "", "a"), prepared(2, 5, "", "ao")}, api.ErrLocked},
		{[]api.Pending{prepared(1, 10, "", "a"), prepared(2, 5, "a", "o")}, api.ErrLocked},
	} {
		holdNoLoad(t, old, c.p, c.e)
	}
	for _, p := range [][]api.Pending{
		{prepared(1, 5, "a", ""), prepared(2, 5, "a", ""), prepared(3, 4, "a", "")}, {prepared(1, 5, "ab", "ab")}, {prepared(1, 10, "", "o")}, {prepared(1, 1, "o", ""), prepared(2, 1, "o", "p")},
		{prepared(3, 5, "", "a"), prepared(1, 5, "", "b"), prepared(2, 5, "", "c")}, {prepared(1, 5, "", ""), prepared(2, 5, "", "")},
	} {
		load(t, old, p...)
	}
}

// P10.2

func TestReadOfVersions(t *testing.T) {
	s := load(t, []api.History{history("a", 3, 8, -12, 15), history("b", 5)})
	for at, wall := range []int{0, 0, 0, 3, 3, 3, 3, 3, 8, 8, 8, 8, -12, -12, -12, 15, 15, 15} {
		holdRead(t, s, "a", moment(at), look("a", wall), moment(at))
	}
	for at := 17; at >= 0; at-- {
		want := 0
		if at >= 5 {
			want = 5
		}
		holdRead(t, s, "b", moment(at), look("b", want), moment(17))
		holdRead(t, s, "c", moment(at), look("c", 0), moment(17))
	}
}

func TestReadAtEdgesOfStamps(t *testing.T) {
	l := goodStamps()
	h := api.History{Key: "a"}
	for i, at := range l {
		h.Versions = append(h.Versions, api.Version{Stamp: at, Value: number(float64(i))})
	}
	s := load(t, []api.History{h})
	holdRead(t, s, "a", api.Stamp{}, api.Seen{Key: "a"}, api.Stamp{})
	for i, at := range l {
		holdRead(t, s, "a", at, api.Seen{Key: "a", Value: number(float64(i)), Stamp: at}, at)
	}
	for i, at := range l {
		holdRead(t, s, "a", at, api.Seen{Key: "a", Value: number(float64(i)), Stamp: at}, l[len(l)-1])
	}
}

func TestReadErrors(t *testing.T) {
	s := load(t, []api.History{history("r", 1), history("w", 2)}, prepared(1, 9, "r", "w"))
	for _, key := range badKeys() {
		holdNoRead(t, s, key, moment(1), api.ErrName)
		holdNoRead(t, s, key, api.Stamp{Wall: -1}, api.ErrName)
	}
	for _, at := range badStamps() {
		holdNoRead(t, s, "a", at, api.ErrStamp)
		holdNoRead(t, s, "w", at, api.ErrStamp)
	}
	holdRead(t, s, "w", moment(8), look("w", 2), moment(8))
	for _, at := range []api.Stamp{moment(9), moment(10), {Wall: 9, Node: 2}, {Wall: 9, Logical: 1}, {Wall: 1 << 48}} {
		holdNoRead(t, s, "w", at, api.ErrLocked)
	}
	just := api.Stamp{Wall: 9}
	holdRead(t, s, "w", just, look("w", 2), just)
	// What is only read by a pending transaction is not locked for readers.
	holdRead(t, s, "r", moment(30), look("r", 1), moment(30))
	want(t, "P10.4: Resolve", s.Resolve(numbered(1), false, api.Stamp{}), api.OK)
	holdRead(t, s, "w", moment(40), look("w", 2), moment(40))
}

func TestReadBesideOtherPendings(t *testing.T) {
	s := load(t, nil, prepared(1, 3, "", "a"), prepared(2, 9, "", "b"), prepared(3, 5, "c", ""))
	holdRead(t, s, "b", moment(8), look("b", 0), moment(8))
	holdNoRead(t, s, "b", moment(9), api.ErrLocked)
	holdNoRead(t, s, "a", moment(3), api.ErrLocked)
	holdRead(t, s, "a", moment(2), look("a", 0), moment(8))
	holdRead(t, s, "c", moment(10), look("c", 0), moment(10))
}

func TestNewest(t *testing.T) {
	s := load(t, []api.History{history("a", 3, 8), history("b", 4, -9)}, prepared(1, 10, "", "ac"))
	for key, wall := range map[string]int{"a": 8, "b": -9, "c": 0, "d": 0} {
		if got := s.Newest(key); text(got) != text(look(key, wall)) {
			t.Errorf("P10.2: Newest(%q) is %v", key, got)
		}
	}
	for _, key := range badKeys() {
		if got := s.Newest(key); got != (api.Seen{Key: key}) {
			t.Errorf("P10.2: Newest of no key is %v", got)
		}
	}
	if s.Low() != (api.Stamp{}) {
		t.Errorf("P10.2: Low is %v after Newest", s.Low())
	}
	want(t, "P10.4: Resolve", s.Resolve(numbered(1), true, moment(11)), api.OK)
	if got := s.Newest("a"); text(got) != text(api.Seen{Key: "a", Value: number(10), Stamp: moment(11)}) {
		t.Errorf("P10.2: Newest of a new version is %v", got)
	}
}
