package mvcc_test

import (
	"math"
	"testing"

	"headrace/api"
	"headrace/mvcc"
)

// holdResolve holds Would and Resolve to an error, and the former, and the latter beside an error, to changing nothing.
func holdResolve(t *testing.T, s *mvcc.Store, x api.Txn, commit bool, at api.Stamp, e api.Errno) {
	t.Helper()
	before := whole(s)
	for range 2 {
		if f := s.Would(x, commit, at); f != e {
			t.Errorf("P10.4: Would(%v, %t, %v) is %d, not %d", x, commit, at, f, e)
		}
	}
	if whole(s) != before {
		t.Errorf("P10.4: Would(%v, %t, %v) changes %s to %s", x, commit, at, before, whole(s))
	}
	if f := s.Resolve(x, commit, at); f != e {
		t.Errorf("P10.4: Resolve(%v, %t, %v) is %d, not %d", x, commit, at, f, e)
	}
	if e != api.OK && whole(s) != before {
		t.Errorf("P10.4: Resolve(%v, %t, %v) with an error changes %s to %s", x, commit, at, before, whole(s))
	}
	if _, has := s.Has(x); has && e == api.OK {
		t.Errorf("P10.4: %v is pending after Resolve", x)
	}
}

// P10.4

func TestResolveWithCommit(t *testing.T) {
	for _, at := range []api.Stamp{moment(9), {Wall: 9, Node: 2}, {Wall: 9, Logical: 1}, moment(10), {Wall: 1 << 48, Logical: 65535, Node: 63}} {
		s := load(t, []api.History{history("a", 3, 8), history("b", -5)}, prepared(1, 9, "br", "abc"), prepared(2, 9, "r", "z"))
		holdResolve(t, s, numbered(1), true, at, api.OK)
		made := api.Version{Stamp: at, Value: number(9)}
		a, b, c := history("a", 3, 8), history("b", -5), api.History{Key: "c"}
		a.Versions, b.Versions, c.Versions = append(a.Versions, made), append(b.Versions, made), append(c.Versions, made)
		if got := s.Histories(); text(got) != text([]api.History{a, b, c}) {
			t.Errorf("P10.4: after a commit at %v: %v", at, got)
		}
		if got := s.Pending(); text(got) != text([]api.Pending{prepared(2, 9, "r", "z")}) {
			t.Errorf("P10.4: after a commit at %v are pending: %v", at, got)
		}
		if s.Low() != (api.Stamp{}) {
			t.Errorf("P10.4: after a commit at %v Low is %v", at, s.Low())
		}
		holdResolve(t, s, numbered(1), true, at, api.ErrNone)
		holdResolve(t, s, numbered(1), false, at, api.ErrNone)
	}
}

func TestResolveKeepsEveryValue(t *testing.T) {
	for _, v := range goodValues() {
		s := load(t, nil, api.Pending{Txn: numbered(1), Stamp: moment(5), Writes: writing("ab", v)})
		holdResolve(t, s, numbered(1), true, moment(6), api.OK)
		got := s.Newest("b")
		if text(got) != text(api.Seen{Key: "b", Value: v, Stamp: moment(6)}) || math.Float64bits(got.Value.Num) != math.Float64bits(v.Num) {
			t.Errorf("P10.4: the value %v becomes %v", v, got)
		}
	}
}

func TestResolveWithoutCommit(t *testing.T) {
	for _, at := range append(append(badStamps(), goodStamps()...), api.Stamp{}, moment(9), moment(8)) {
		l := []api.History{history("a", 3, 8), history("b", -5)}
		s := load(t, l, prepared(1, 9, "br", "abc"), prepared(2, 9, "r", "z"))
		holdResolve(t, s, numbered(1), false, at, api.OK)
		if got := s.Histories(); text(got) != text(l) {
			t.Errorf("P10.4: without a commit: %v", got)
		}
		if got := s.Pending(); text(got) != text([]api.Pending{prepared(2, 9, "r", "z")}) {
			t.Errorf("P10.4: without a commit are pending: %v", got)
		}
		holdResolve(t, s, numbered(1), false, at, api.ErrNone)
	}
}

func TestResolveErrors(t *testing.T) {
	s := load(t, []api.History{history("a", 3, 8)}, prepared(1, 9, "b", "a"), prepared(2, 20, "", ""))
	for _, x := range append(badTxns(), numbered(3), api.Txn{Coord: 2, Life: 1, Seq: 1}, api.Txn{Coord: 1, Life: 2, Seq: 1}) {
		holdResolve(t, s, x, true, moment(9), api.ErrNone)
		holdResolve(t, s, x, false, moment(9), api.ErrNone)
		holdResolve(t, s, x, true, api.Stamp{Wall: -1}, api.ErrNone)
	}
	for _, at := range badStamps() {
		holdResolve(t, s, numbered(1), true, at, api.ErrStamp)
	}
	for _, at := range []api.Stamp{{}, {Node: 1}, moment(3), moment(8), {Wall: 9}, {Wall: 8, Logical: 65535, Node: 63}} {
		holdResolve(t, s, numbered(1), true, at, api.ErrOld)
		holdResolve(t, s, numbered(2), true, at, api.ErrOld)
	}
	holdResolve(t, s, numbered(2), true, moment(20), api.OK)
	holdResolve(t, s, numbered(1), true, moment(9), api.OK)
}

// P10.5

func TestContents(t *testing.T) {
	s := load(t, []api.History{history("a", 3, 8), history("b", 4, -9), history("c", 12)}, prepared(2, 20, "b", "ad"), prepared(1, 20, "b", "e"))
	for at, want := range map[int]string{0: "", 2: "", 3: "a3", 4: "a3b4", 7: "a3b4", 8: "a8b4", 9: "a8", 11: "a8", 12: "a8c12", 20: "a8c12", 1 << 48: "a8c12"} {
		got := ""
		for _, pair := range s.At(moment(at)) {
			got += pair.Key + text(pair.Value.Num)
		}
		if got != want {
			t.Errorf("P10.5: At(%d) is %s, not %s", at, got, want)
		}
	}
	for _, c := range []struct {
		at api.Stamp
		n  int
	}{{api.Stamp{Wall: math.MinInt}, 0}, {api.Stamp{Wall: -1, Node: 99}, 0}, {api.Stamp{Wall: 3, Node: -1}, 0}, {api.Stamp{Wall: 3, Logical: math.MaxInt}, 1}, {api.Stamp{Wall: math.MaxInt}, 2}} {
		if got := s.At(c.at); len(got) != c.n {
			t.Errorf("P10.5: At(%v) is %v", c.at, got)
		}
	}
	if s.Low() != (api.Stamp{}) {
		t.Errorf("P10.5: Low is %v after At", s.Low())
	}
	if got := s.Pending(); text(got) != text([]api.Pending{prepared(1, 20, "b", "e"), prepared(2, 20, "b", "ad")}) {
		t.Errorf("P10.5: Pending is %v", got)
	}
	if got, has := s.Has(numbered(2)); !has || text(got) != text(prepared(2, 20, "b", "ad")) {
		t.Errorf("P10.5: Has is %v, %t", got, has)
	}
	for _, x := range append(badTxns(), numbered(3)) {
		if got, has := s.Has(x); has || text(got) != text(api.Pending{}) {
			t.Errorf("P10.5: Has(%v) is %v, %t", x, got, has)
		}
	}
}

func TestContentsAreInOrder(t *testing.T) {
	s := mvcc.New()
	keys, txns := goodKeys(), goodTxns()
	// They come in another order.
	for i := range keys {
		key := keys[(5*i+3)%len(keys)]
		holdPrepare(t, s, api.Pending{Txn: numbered(1), Stamp: moment(i + 1), Writes: []api.Write{{Key: key, Value: words(key)}}}, nil, api.OK)
		holdResolve(t, s, numbered(1), true, moment(i+1), api.OK)
	}
	for i := range txns {
		holdPrepare(t, s, api.Pending{Txn: txns[(5*i+1)%len(txns)], Stamp: moment(9)}, nil, api.OK)
	}
	histories, pairs, pending := s.Histories(), s.At(moment(100)), s.Pending()
	if len(histories) != len(keys) || len(pairs) != len(keys) || len(pending) != len(txns) {
		t.Fatalf("P10.5: %d histories, %d pairs, %d pending", len(histories), len(pairs), len(pending))
	}
	for i, key := range keys {
		if histories[i].Key != key || pairs[i] != (api.Pair{Key: key, Value: words(key)}) {
			t.Errorf("P10.5: at %d: %v, %v", i, histories[i], pairs[i])
		}
	}
	for i, x := range txns {
		if pending[i].Txn != x {
			t.Errorf("P10.5: at %d: %v", i, pending[i])
		}
	}
}

// P10.6

// fill overwrites a list and the memory behind it.
func fill[T any](l []T, x T) {
	l = l[:cap(l)]
	for i := range l {
		l[i] = x
	}
}

// fillPending overwrites the lists of p.
func fillPending(p api.Pending) {
	fill(p.Reads, "spoiled")
	fill(p.Writes, api.Write{Key: "spoiled", Value: words("spoiled")})
}

func TestArgumentsAreNotKept(t *testing.T) {
	h, p := history("a", 1, 2), prepared(1, 5, "ab", "cd")
	s := load(t, []api.History{h}, p)
	more := prepared(2, 6, "ab", "ef")
	seen := seenOf(s, more)
	holdPrepare(t, s, more, seen, api.OK)
	before := whole(s)
	fill(h.Versions, api.Version{Stamp: moment(99), Value: words("spoiled")})
	fillPending(p)
	fillPending(more)
	fill(seen, api.Seen{Key: "spoiled"})
	if whole(s) != before {
		t.Errorf("P10.6: a change of arguments changes %s to %s", before, whole(s))
	}
	holdPrepare(t, s, prepared(3, 6, "", "f"), nil, api.ErrLocked)
	holdResolve(t, s, numbered(2), true, moment(6), api.OK)
	if got := s.Newest("f"); text(got) != text(api.Seen{Key: "f", Value: number(6), Stamp: moment(6)}) {
		t.Errorf("P10.6: a change of arguments makes %v", got)
	}
}

func TestArgumentsAreNotChanged(t *testing.T) {
	h, p := []api.History{history("a", 1, 2), history("b", 3), history("c", 9)}, []api.Pending{prepared(1, 5, "ab", "cd"), prepared(2, 5, "ab", "ef"), prepared(3, 5, "x", "y")}
	seen := []api.Seen{look("a", 2), look("b", 3), look("c", 7)}
	before := text(h) + text(p) + text(seen)
	// What lies behind the arguments' ends is wrong.
	s := load(t, h[:2], p[:1]...)
	q := p[1]
	q.Reads, q.Writes = q.Reads[:1], q.Writes[:1]
	holdPrepare(t, s, q, seen[:1], api.OK)
	holdResolve(t, s, numbered(1), true, moment(8), api.OK)
	holdResolve(t, s, numbered(2), true, moment(9), api.OK)
	if got := text(h) + text(p) + text(seen); got != before {
		t.Errorf("P10.6: the arguments %s have become %s", before, got)
	}
	if got := s.Newest("f"); got != (api.Seen{Key: "f"}) {
		t.Errorf("P10.6: a write behind the end is %v", got)
	}
}

func TestResultsAreNewMemory(t *testing.T) {
	s := load(t, []api.History{history("a", 1, 2), history("b", 3), history("g", 1, 2, 3)}, prepared(1, 5, "ab", "cd"), prepared(2, 5, "ab", "ef"))
	before, pairs := whole(s), text(s.At(moment(9)))
	histories, other := s.Histories(), s.Histories()
	pending, again := s.Pending(), s.Pending()
	one, _ := s.Has(numbered(1))
	at, same := s.At(moment(9)), s.At(moment(9))
	for i, h := range histories {
		fill(h.Versions, api.Version{Stamp: moment(99)})
		if text(other) != text(s.Histories()) || text(histories[i+1:]) != text(other[i+1:]) {
			t.Fatalf("P10.6: Histories are %v after a change of %d", other, i)
		}
	}
	fill(histories, api.History{Key: "spoiled"})
	for i, p := range pending {
		fillPending(p)
		if text(again) != text(s.Pending()) || text(pending[i+1:]) != text(again[i+1:]) || text(one) != text(again[0]) {
			t.Fatalf("P10.6: Pending is %v after a change of %d", again, i)
		}
	}
	fill(pending, api.Pending{})
	fillPending(one)
	fill(at, api.Pair{Key: "spoiled"})
	if whole(s) != before || text(other)+text(again)+text(s.Low()) != before || text(same) != pairs || text(s.At(moment(9))) != pairs {
		t.Errorf("P10.6: a change of results changes %s to %s", before, whole(s))
	}
	// What a store makes later doesn't reach what it returned.
	holdResolve(t, s, numbered(1), true, moment(6), api.OK)
	if text(other)+text(again)+text(s.Low()) != before {
		t.Errorf("P10.6: Resolve changes what was returned to %v, %v", other, again)
	}
}

func TestStoresAreApart(t *testing.T) {
	a := load(t, []api.History{history("a", 1, 2)}, prepared(1, 5, "b", "a"))
	b := load(t, a.Histories(), a.Pending()...)
	before := whole(b)
	holdRead(t, a, "c", moment(3), look("c", 0), moment(3))
	holdResolve(t, a, numbered(1), true, moment(7), api.OK)
	holdPrepare(t, a, prepared(2, 9, "", "b"), nil, api.OK)
	if whole(b) != before {
		t.Errorf("P10.6: another store changes from %s to %s", before, whole(b))
	}
	holdResolve(t, b, numbered(1), true, moment(6), api.OK)
	if got := a.Newest("a").Stamp; got != moment(7) {
		t.Errorf("P10.6: another store's commit makes %v", got)
	}
}
