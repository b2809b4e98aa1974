package hand_test

import (
	"fmt"
	"math"
	"math/rand"
	"slices"
	"testing"

	"headrace/api"
	"headrace/hlc"
	"headrace/mvcc"
	"headrace/place"
	"headrace/recs"
)

// halfOf lists the writes of one half by themselves.
func halfOf(l []api.Write, point float64, left bool) []api.Write {
	var half []api.Write
	for _, w := range l {
		if (place.Of(w.Key) < point) == left {
			half = append(half, w)
		}
	}
	return half
}

// keysOf lists the keys of one half by themselves.
func keysOf(l []string, point float64, left bool) []string {
	var half []string
	for _, key := range l {
		if (place.Of(key) < point) == left {
			half = append(half, key)
		}
	}
	return half
}

// halfState has the histories and pending transactions of one half by themselves.
func halfState(s api.State, point float64, left bool) (half api.State) {
	for _, h := range s.Histories {
		if (place.Of(h.Key) < point) == left {
			half.Histories = append(half.Histories, h)
		}
	}
	for _, p := range s.Pending {
		p.Reads, p.Writes = keysOf(p.Reads, point, left), halfOf(p.Writes, point, left)
		if left || len(p.Reads) > 0 || len(p.Writes) > 0 {
			half.Pending = append(half.Pending, p)
		}
	}
	return half
}

// plain is P15.1 by its words.
func plain(c cut) (left, right api.State, e api.Errno) {
	r := c.s.Range
	switch {
	case !recs.StateMay(c.s):
		return left, right, api.ErrForm
	case !hlc.May(c.stamp) || !hlc.May(c.floor):
		return left, right, api.ErrStamp
	case r.Epoch == math.MaxInt || c.child < 1 || c.child > 12 || c.child == r.ID || math.Signbit(c.point) || !(c.point <= 1):
		return left, right, api.ErrRange
	case c.point <= r.Lo || c.point >= r.Hi:
		return left, right, api.ErrNarrow
	}
	left, right = halfState(c.s, c.point, true), halfState(c.s, c.point, false)
	left.Range = api.Range{ID: r.ID, Epoch: r.Epoch + 1, Lo: r.Lo, Hi: c.point}
	right.Range = api.Range{ID: c.child, Lo: c.point, Hi: r.Hi}
	left.Floor, left.Closed, right.Floor, right.Closed = c.s.Floor, c.s.Closed, c.floor, c.stamp
	return left, right, api.OK
}

func one[E any](r *rand.Rand, l ...E) E { return l[r.Intn(len(l))] }

// names lists keys of the range, in ascending order.
func names(r *rand.Rand, in api.Range, most int) []string {
	var l []string
	for range r.Intn(most + 1) {
		key := string(rune('a'+r.Intn(26))) + one(r, "", "", "x", "\x00", "\xff", "zz")
		if place.In(in, place.Of(key)) {
			l = append(l, key)
		}
	}
	slices.Sort(l)
	return slices.Compact(l)
}

func someValue(r *rand.Rand) api.Value {
	return one(r, api.Value{}, number(float64(r.Intn(9))), number(nan), number(minusZero), number(math.Inf(-1)), words(""), words("x"))
}

func someStamp(r *rand.Rand) api.Stamp {
	return api.Stamp{Wall: 10 + r.Intn(10), Logical: r.Intn(3), Node: r.Intn(5)}
}

// someState returns a valid state.
func someState(r *rand.Rand) api.State {
	points := []float64{0, least, 0.125, 0.25, placeB, 0.5, placeA, 0.75, belowOne, 1}
	i := r.Intn(len(points) - 1)
	s := api.State{Range: api.Range{ID: 1 + r.Intn(12), Epoch: one(r, 0, 1, 5, math.MaxInt-1), Lo: points[i], Hi: points[i+1+r.Intn(len(points)-1-i)]}}
	s.Floor, s.Closed = one(r, goodStamps()...), one(r, goodStamps()...)
	if r.Intn(2) == 0 {
		s.Range.Lo, s.Range.Hi = 0, 1
	}
	for _, key := range names(r, s.Range, 30) {
		h := api.History{Key: key}
		for wall := range 1 + r.Intn(4) {
			h.Versions = append(h.Versions, api.Version{Stamp: api.Stamp{Wall: 1 + wall, Logical: r.Intn(9), Node: r.Intn(9)}, Value: someValue(r)})
		}
		s.Histories = append(s.Histories, h)
	}
	for range r.Intn(9) {
		p := api.Pending{Txn: api.Txn{Coord: 1 + r.Intn(2), Life: 1 + r.Intn(3), Seq: 1 + r.Intn(9)}, Stamp: someStamp(r), Reads: names(r, s.Range, 5)}
		for _, key := range names(r, s.Range, 4) {
			p.Writes = append(p.Writes, api.Write{Key: key, Value: someValue(r)})
		}
		// What clashes with what is pending stays away.
		l := append(slices.Clone(s.Pending), p)
		if _, e := mvcc.Load(s.Histories, l); e == api.OK {
			s.Pending = l
		}
	}
	return s
}

// spoilState makes most states states that are not valid.
func spoilState(r *rand.Rand, s *api.State) {
	one(r,
		func() { s.Range.ID = one(r, 0, 13, -1) },
		func() { s.Range.Lo, s.Range.Hi = s.Range.Hi, s.Range.Lo },
		func() { s.Floor = one(r, badStamps()...) },
		func() { s.Closed = one(r, badStamps()...) },
		func() { slices.Reverse(s.Histories) },
		func() { s.Pending = append(s.Pending, s.Pending...) },
		func() { s.Range.Lo = placeB },
		func() { s.Range.Hi = placeA },
	)()
}

// someCut returns a cut of a state, with errors of all kinds.
func someCut(r *rand.Rand) cut {
	c := cut{s: someState(r), child: 1 + r.Intn(12), stamp: one(r, goodStamps()...), floor: one(r, goodStamps()...)}
	in := c.s.Range
	c.point = one(r, in.Lo+(in.Hi-in.Lo)*r.Float64(), in.Lo+(in.Hi-in.Lo)/2, placeA, placeC, 0.5)
	if n := len(c.s.Histories); n > 0 && r.Intn(4) == 0 {
		c.point = place.Of(c.s.Histories[r.Intn(n)].Key)
	}
	if r.Intn(8) == 0 {
		c.point = one(r, in.Lo, in.Hi, 0, 1, minusZero, nan, -1, 2, math.Inf(1))
	}
	if r.Intn(12) == 0 {
		c.child = one(r, in.ID, 0, 13, -1)
	}
	if r.Intn(12) == 0 {
		c.stamp = one(r, badStamps()...)
	}
	if r.Intn(12) == 0 {
		c.floor = one(r, badStamps()...)
	}
	if r.Intn(12) == 0 {
		spoilState(r, &c.s)
	}
	return c
}

// partsOf counts every version and every pending read and write of a state, with what it belongs to.
func partsOf(counts map[string]int, s api.State, by int) {
	for _, h := range s.Histories {
		for _, v := range h.Versions {
			counts[fmt.Sprintf("%q from %v on %s", h.Key, v.Stamp, valueText(v.Value))] += by
		}
	}
	for _, p := range s.Pending {
		for _, key := range p.Reads {
			counts[fmt.Sprintf("%v at %v reads %q", p.Txn, p.Stamp, key)] += by
		}
		for _, w := range p.Writes {
			counts[fmt.Sprintf("%v at %v writes%s", p.Txn, p.Stamp, writesText([]api.Write{w}))] += by
		}
	}
}

// nothingIsLost holds both halves to what they were made of, and to their ranges.
func nothingIsLost(t *testing.T, c cut, left, right api.State) {
	t.Helper()
	counts := make(map[string]int)
	partsOf(counts, c.s, -1)
	partsOf(counts, left, 1)
	partsOf(counts, right, 1)
	for part, count := range counts {
		if count != 0 {
			t.Fatalf("P15.5: %s: %s is there %d times too often", c.text(), part, count)
		}
	}
	for _, s := range []api.State{left, right} {
		if !recs.StateMay(s) {
			t.Fatalf("P15.5: %s: a half is not valid: %s", c.text(), text(s))
		}
	}
}

// P15.1, P15.2, P15.5
func TestRandomCuts(t *testing.T) {
	r := rand.New(rand.NewSource(151))
	told := make(map[api.Errno]int)
	for range 6000 {
		c := someCut(r)
		left, right, e := plain(c)
		told[e]++
		if e != api.OK {
			refuses(t, "P15.1", c, e)
			continue
		}
		divides(t, "P15.1", c, left, right)
		nothingIsLost(t, c, left, right)
		for _, p := range c.s.Pending {
			halved(t, p.Writes, c.point, halfOf(p.Writes, c.point, true), halfOf(p.Writes, c.point, false))
		}
	}
	for _, e := range []api.Errno{api.OK, api.ErrForm, api.ErrStamp, api.ErrRange, api.ErrNarrow} {
		if told[e] < 100 {
			t.Errorf("P15.1: only %d cases have the error %d", told[e], e)
		}
	}
}

// together is P15.3 by its words, as far as both halves are valid.
func together(left, right api.State) (api.State, api.Errno) {
	if math.Float64bits(left.Range.Hi) != math.Float64bits(right.Range.Lo) || left.Range.Epoch < 1 || left.Range.ID == right.Range.ID {
		return api.State{}, api.ErrState
	}
	s := api.State{Range: api.Range{ID: left.Range.ID, Epoch: left.Range.Epoch - 1, Lo: left.Range.Lo, Hi: right.Range.Hi}, Floor: left.Floor, Closed: left.Closed}
	for _, p := range right.Pending {
		if !slices.ContainsFunc(left.Pending, func(q api.Pending) bool { return q.Txn == p.Txn && q.Stamp == p.Stamp }) {
			return api.State{}, api.ErrState
		}
	}
	s.Histories = slices.Concat(left.Histories, right.Histories)
	slices.SortFunc(s.Histories, func(a, b api.History) int { return slices.Compare([]byte(a.Key), []byte(b.Key)) })
	for _, p := range left.Pending {
		for _, q := range right.Pending {
			if q.Txn == p.Txn {
				p.Reads = slices.Sorted(slices.Values(slices.Concat(p.Reads, q.Reads)))
				p.Writes = slices.Concat(p.Writes, q.Writes)
			}
		}
		slices.SortFunc(p.Writes, func(a, b api.Write) int { return slices.Compare([]byte(a.Key), []byte(b.Key)) })
		s.Pending = append(s.Pending, p)
	}
	return s, api.OK
}

// unlike changes one of two halves of a state a little; the halves are valid all the same, or most of them.
func unlike(r *rand.Rand, left, right *api.State) {
	half := one(r, left, right)
	changes := []func(){
		func() { half.Floor, half.Closed = someStamp(r), someStamp(r) },
		func() { half.Range.Epoch = r.Intn(3) },
		func() { half.Range.ID = 1 + r.Intn(12) },
		func() { slices.Reverse(half.Pending) },
		func() {
			half.Pending = append(slices.Clip(half.Pending), api.Pending{Txn: txn(20 + r.Intn(2)), Stamp: someStamp(r)})
		},
		func() { half.Histories = half.Histories[:r.Intn(len(half.Histories)+1)] },
		func() { spoilState(r, half) },
	}
	if n := len(half.Pending); n > 0 {
		p := &half.Pending[r.Intn(n)]
		changes = append(changes,
			func() { p.Stamp = someStamp(r) },
			func() { p.Txn.Life = 1 + r.Intn(4) },
			func() { p.Reads = nil },
			func() { p.Writes = p.Writes[:len(p.Writes)/2] },
			func() { half.Pending = half.Pending[:n-1] },
			func() { half.Pending = half.Pending[1:] },
		)
	}
	one(r, changes...)()
}

// P15.3: halves of one state, of which a few things are others by now.
func TestRandomRejoins(t *testing.T) {
	r := rand.New(rand.NewSource(153))
	told := make(map[api.Errno]int)
	for range 6000 {
		c := someCut(r)
		left, right, e := c.divide()
		if e != api.OK {
			continue
		}
		for range r.Intn(4) {
			unlike(r, &left, &right)
		}
		want, e := api.State{}, api.ErrForm
		if recs.StateMay(left) && recs.StateMay(right) {
			want, e = together(left, right)
		}
		told[e]++
		if e != api.OK {
			parts(t, "P15.3", left, right, e)
			continue
		}
		rejoins(t, "P15.3", left, right, want)
	}
	for _, e := range []api.Errno{api.OK, api.ErrForm, api.ErrState} {
		if told[e] < 200 {
			t.Errorf("P15.3: only %d cases have the error %d", told[e], e)
		}
	}
}

// P15.5: a range is split again and again, and put together in the other order.
func TestSplitsOfSplits(t *testing.T) {
	r := rand.New(rand.NewSource(155))
	for range 300 {
		s := someState(r)
		s.Range = api.Range{ID: 1, Epoch: 2, Hi: 1}
		was, left := text(s), s
		var others []api.State
		for child := 2; child <= 12; child++ {
			point := left.Range.Hi * (0.5 + r.Float64()/2)
			c := cut{left, point, child, someStamp(r), someStamp(r)}
			if point >= left.Range.Hi {
				break
			}
			var right api.State
			left, right = halves(t, "P15.5", c)
			others = append(others, right)
		}
		for _, right := range slices.Backward(others) {
			right.Range.Epoch = r.Intn(3)
			joined, e := together(left, right)
			if e != api.OK {
				t.Fatalf("P15.5: error %d", e)
			}
			rejoins(t, "P15.5", left, right, joined)
			left = joined
		}
		if text(left) != was {
			t.Fatalf("P15.5: %s has become %s", was, text(left))
		}
	}
}
