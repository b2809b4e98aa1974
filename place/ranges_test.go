package place_test

import (
	"math"
	"slices"
	"testing"

	"headrace/api"
	"headrace/place"
)

// sameRange: NaNs and noughts are held against each other by their bits.
func sameRange(a, b api.Range) bool {
	return a.ID == b.ID && a.Epoch == b.Epoch && same(a.Lo, b.Lo) && same(a.Hi, b.Hi)
}

// P4.3

// wrongRanges lists ranges that are not valid, each for one reason or for several.
func wrongRanges() []api.Range {
	l := []api.Range{
		{}, {ID: 0, Hi: 1}, {ID: -1, Hi: 1}, {ID: 13, Hi: 1}, {ID: math.MaxInt, Hi: 1}, {ID: math.MinInt, Hi: 1},
		{ID: 1, Epoch: -1, Hi: 1}, {ID: 1, Epoch: math.MinInt, Hi: 1},
		{ID: 1}, {ID: 1, Lo: 1, Hi: 1}, {ID: 1, Lo: 0.5, Hi: 0.5}, {ID: 1, Lo: 0.5, Hi: 0.25}, {ID: 1, Lo: 1}, {ID: 1, Lo: least, Hi: 0}, {ID: 1, Lo: 1, Hi: below},
	}
	for _, x := range notPoints() {
		l = append(l, api.Range{ID: 1, Lo: x, Hi: 1}, api.Range{ID: 1, Hi: x}, api.Range{ID: 1, Lo: x, Hi: x})
	}
	return l
}

func TestMay(t *testing.T) {
	for _, lo := range points() {
		for _, hi := range points() {
			for _, id := range []int{1, 2, 11, 12} {
				for _, epoch := range []int{0, 1, math.MaxInt} {
					r := api.Range{ID: id, Epoch: epoch, Lo: lo, Hi: hi}
					if place.May(r) != (lo < hi) {
						t.Errorf("P4.3: May(%+v) is %v", r, place.May(r))
					}
				}
			}
		}
	}
}

func TestMayNot(t *testing.T) {
	for _, r := range wrongRanges() {
		if place.May(r) {
			t.Errorf("P4.3: May(%+v)", r)
		}
	}
}

// compare says how a and b lie, and false if one of them is a NaN.
func compare(a, b float64) (int, bool) {
	switch {
	case a < b:
		return -1, true
	case a > b:
		return 1, true
	default:
		return 0, a == b
	}
}

func TestIn(t *testing.T) {
	l := append(points(), notPoints()...)
	for _, lo := range l {
		for _, hi := range l {
			for _, x := range l {
				low, isLow := compare(x, lo)
				high, isHigh := compare(x, hi)
				want := isLow && isHigh && low >= 0 && high < 0
				// The ID and the Epoch do not matter, nor whether the range is valid.
				for _, id := range []int{0, 1} {
					r := api.Range{ID: id, Epoch: -id, Lo: lo, Hi: hi}
					if place.In(r, x) != want {
						t.Fatalf("P4.3: In(%+v, %v) is %v", r, x, !want)
					}
				}
			}
		}
	}
}

func TestInAtEdges(t *testing.T) {
	for _, c := range []struct {
		lo, hi, x float64
		want      bool
	}{
		{0, 1, 0, true}, {0, 1, minus, true}, {minus, 1, 0, true}, {0, 1, below, true}, {0, 1, 1, false}, {0, 1, -least, false}, {0, 0, 0, false},
		{minus, 0, minus, false}, {0, least, 0, true}, {0, least, least, false}, {0.25, 0.5, 0.25, true}, {0.25, 0.5, 0.5, false}, {0.25, 0.5, 0.2, false},
		{nan, 1, 0.5, false}, {0, nan, 0.5, false}, {0, 1, nan, false}, {nan, nan, nan, false}, {-inf, inf, 0.5, true}, {-inf, inf, -inf, true}, {-inf, inf, inf, false},
		{0.5, 0.25, 0.3, false}, {-1, 0, minus, false}, {-1, 2, 1.5, true},
	} {
		if got := place.In(api.Range{ID: 1, Lo: c.lo, Hi: c.hi}, c.x); got != c.want {
			t.Errorf("P4.3: %v in %v to %v is %v", c.x, c.lo, c.hi, got)
		}
	}
}

// P4.4

// covers counts for each place the ranges that have it. The count can change only where one of
// them begins or ends, so these places and the first one stand for all.
func covers(l []api.Range) bool {
	edges := []float64{0}
	for _, r := range l {
		edges = append(edges, r.Lo, r.Hi)
	}
	for _, x := range edges {
		if x < 0 || x >= 1 {
			continue
		}
		n := 0
		for _, r := range l {
			if r.Lo <= x && x < r.Hi {
				n++
			}
		}
		if n != 1 {
			return false
		}
	}
	return true
}

// reckonCheck is the list of errors of P4.4.
func reckonCheck(l []api.Range) api.Errno {
	if len(l) == 0 {
		return api.ErrNone
	}
	if len(l) > 12 {
		return api.ErrMany
	}
	for i, r := range l {
		if !place.May(r) {
			return api.ErrRange
		}
		for _, earlier := range l[:i] {
			if earlier.ID == r.ID {
				return api.ErrTwice
			}
		}
	}
	if !covers(l) {
		return api.ErrState
	}
	return api.OK
}

func wantCheck(t *testing.T, l []api.Range, want api.Errno) {
	t.Helper()
	kept := slices.Clone(l)
	if got := place.Check(l); got != want {
		t.Errorf("P4.4: Check(%+v) is %d, not %d", l, got, want)
	}
	if !slices.EqualFunc(l, kept, sameRange) {
		t.Errorf("P0.4: Check changed %+v to %+v", kept, l)
	}
}

// pieces makes valid ranges from each of the points to the next, with the IDs 1, 2 and so on.
func pieces(cuts ...float64) []api.Range {
	var l []api.Range
	for i := range len(cuts) - 1 {
		l = append(l, api.Range{ID: i + 1, Lo: cuts[i], Hi: cuts[i+1]})
	}
	return l
}

func TestCheckOfCovers(t *testing.T) {
	for _, l := range [][]api.Range{
		pieces(0, 1), pieces(0, 0.5, 1), pieces(0, least, 1), pieces(0, below, 1), pieces(0, least, 2*least, 0.1, below, 1),
		pieces(0, 0.1, 0.2, 0.3, 0.4, 0.5, 0.6, 0.7, 0.8, 0.9, 0.95, 0.99, 1),
		{{ID: 12, Epoch: math.MaxInt, Hi: 1}}, {{ID: 7, Epoch: 3, Lo: 0.5, Hi: 1}, {ID: 12, Hi: 0.25}, {ID: 3, Epoch: 9, Lo: 0.25, Hi: 0.5}},
	} {
		wantCheck(t, l, api.OK)
		slices.Reverse(l)
		wantCheck(t, l, api.OK)
		for range len(l) {
			l = append(l[1:], l[0])
			wantCheck(t, l, api.OK)
		}
	}
}

func TestCheckOfGapsAndOverlaps(t *testing.T) {
	for _, l := range [][]api.Range{
		pieces(0, 0.5), pieces(0.5, 1), pieces(least, 1), pieces(0, below), pieces(least, 0.5, 1), pieces(0, 0.5, below),
		{{ID: 1, Hi: 0.5}, {ID: 2, Lo: math.Nextafter(0.5, 1), Hi: 1}}, {{ID: 1, Hi: 0.5}, {ID: 2, Lo: math.Nextafter(0.5, 0), Hi: 1}},
		{{ID: 1, Hi: 1}, {ID: 2, Hi: 1}}, {{ID: 1, Hi: 1}, {ID: 2, Hi: 0.5}}, {{ID: 1, Hi: 0.5}, {ID: 2, Hi: 1}}, {{ID: 1, Hi: 1}, {ID: 2, Lo: 0.5, Hi: 1}},
		{{ID: 1, Hi: 1}, {ID: 2, Lo: 0.2, Hi: 0.4}}, {{ID: 1, Hi: 0.5}, {ID: 2, Lo: 0.5, Hi: 1}, {ID: 3, Lo: 0.5, Hi: 1}},
		{{ID: 1, Hi: 0.5}, {ID: 2, Hi: 0.5}, {ID: 3, Lo: 0.5, Hi: 1}}, {{ID: 1, Hi: 1}, {ID: 2, Hi: least}}, {{ID: 1, Hi: 1}, {ID: 2, Lo: below, Hi: 1}},
		{{ID: 1, Hi: 0.25}, {ID: 2, Lo: 0.75, Hi: 1}},
	} {
		wantCheck(t, l, api.ErrState)
		slices.Reverse(l)
		wantCheck(t, l, api.ErrState)
	}
}

func TestCheckTellsTheFirstError(t *testing.T) {
	twelve, _ := place.Even(12)
	whole := api.Range{ID: 1, Hi: 1}
	wrong := api.Range{ID: 1, Lo: 0.5, Hi: 0.5}
	wantCheck(t, nil, api.ErrNone)
	wantCheck(t, []api.Range{}, api.ErrNone)
	wantCheck(t, append(slices.Clone(twelve), whole), api.ErrMany)
	wantCheck(t, append(slices.Clone(twelve), api.Range{ID: 13, Hi: 1}), api.ErrMany)
	wantCheck(t, make([]api.Range, 13), api.ErrMany)
	wantCheck(t, make([]api.Range, 12), api.ErrRange)
	wantCheck(t, make([]api.Range, 100000), api.ErrMany)
	// Thirteen ranges that have each place once are still too many.
	many := pieces(0, 0.1, 0.2, 0.3, 0.4, 0.5, 0.6, 0.7, 0.8, 0.9, 0.95, 0.97, 0.99, 1)
	wantCheck(t, many, api.ErrMany)
	many[12].ID = 1
	wantCheck(t, many, api.ErrMany)
	// And what has each place once is refused if two are named alike, or if one of them has no place.
	wantCheck(t, []api.Range{{ID: 1, Hi: 0.5}, {ID: 1, Lo: 0.5, Hi: 1}}, api.ErrTwice)
	wantCheck(t, []api.Range{{ID: 3, Hi: 0.5}, {ID: 4, Lo: 0.5, Hi: 0.7}, {ID: 3, Lo: 0.7, Hi: 1}}, api.ErrTwice)
	wantCheck(t, []api.Range{{ID: 2, Hi: 1}, wrong}, api.ErrRange)
	wantCheck(t, []api.Range{{ID: 1, Lo: -1, Hi: 2}}, api.ErrRange)
	wantCheck(t, []api.Range{{ID: 1, Lo: minus, Hi: 1}}, api.ErrRange)
	// Range by range: what comes first in the list is told.
	wantCheck(t, []api.Range{whole, whole, wrong}, api.ErrTwice)
	wantCheck(t, []api.Range{whole, wrong, whole}, api.ErrRange)
	wantCheck(t, []api.Range{whole, whole}, api.ErrTwice)
	wantCheck(t, []api.Range{whole, {ID: 0, Hi: 1}, {ID: 0, Hi: 1}}, api.ErrRange)
	wantCheck(t, []api.Range{whole, {ID: 1, Epoch: 1, Lo: 0.5, Hi: 1}}, api.ErrTwice)
	wantCheck(t, []api.Range{{ID: 12, Epoch: 2, Hi: 0.5}, {ID: 12, Epoch: 1, Lo: 0.5, Hi: 1}}, api.ErrTwice)
	for _, r := range wrongRanges() {
		wantCheck(t, []api.Range{r}, api.ErrRange)
		wantCheck(t, []api.Range{{ID: 5, Hi: 1}, r}, api.ErrRange)
	}
}

func TestCheckOfAllShortLists(t *testing.T) {
	cuts := []float64{0, minus, 0.25, 0.5, 1}
	var all []api.Range
	for _, lo := range cuts {
		for _, hi := range cuts {
			for id := 1; id <= 3; id++ {
				all = append(all, api.Range{ID: id, Lo: lo, Hi: hi})
			}
		}
	}
	for _, a := range all {
		wantCheck(t, []api.Range{a}, reckonCheck([]api.Range{a}))
		for _, b := range all {
			wantCheck(t, []api.Range{a, b}, reckonCheck([]api.Range{a, b}))
			for _, c := range all {
				wantCheck(t, []api.Range{a, b, c}, reckonCheck([]api.Range{a, b, c}))
			}
		}
	}
}

func TestCheckLeavesSpareMemoryAlone(t *testing.T) {
	l := pieces(0, 0.25, 0.5, 1)
	slices.Reverse(l)
	kept := slices.Clone(l)
	wantCheck(t, l[:2], api.ErrState)
	if !slices.Equal(l, kept) {
		t.Errorf("P0.4: Check changed %+v to %+v", kept, l)
	}
}

func TestFind(t *testing.T) {
	three := pieces(0, 0.25, 0.5, 1)
	for _, c := range []struct {
		l    []api.Range
		x    float64
		want int // an index, or -1
	}{
		{three, 0, 0}, {three, minus, 0}, {three, math.Nextafter(0.25, 0), 0}, {three, 0.25, 1}, {three, 0.5, 2}, {three, below, 2},
		{three, 1, -1}, {three, -least, -1}, {three, nan, -1}, {three, inf, -1}, {three, -inf, -1},
		{nil, 0.5, -1}, {[]api.Range{}, 0, -1}, {three[:1], 0.25, -1}, {three[1:2], 0.25, 0},
		{[]api.Range{{ID: 7, Hi: 1}, {ID: 5, Hi: 1}}, 0.5, 0}, {[]api.Range{{ID: 7, Hi: 0.5}, {ID: 5, Hi: 1}, {ID: 5, Epoch: 2, Lo: 0.4, Hi: 1}}, 0.5, 1},
		{[]api.Range{{ID: 1, Lo: nan, Hi: 1}, {ID: 1, Hi: nan}, {ID: -3, Epoch: -4, Lo: -1, Hi: 2}, {ID: 1, Hi: 1}}, 0.5, 2},
		{[]api.Range{{ID: 1, Lo: nan, Hi: 1}, {ID: 1, Hi: nan}}, 0.5, -1}, {make([]api.Range, 20), 0, -1},
	} {
		var want api.Range
		if c.want >= 0 {
			want = c.l[c.want]
		}
		if got, ok := place.Find(c.l, c.x); got != want || ok != (c.want >= 0) {
			t.Errorf("P4.4: Find(%+v, %v) is %+v, %v", c.l, c.x, got, ok)
		}
	}
}

func TestFindInLongLists(t *testing.T) {
	// More ranges than a cover may have, and several that overlap.
	var l []api.Range
	for i := range 64 {
		l = append(l, api.Range{ID: i, Lo: float64(63-i) / 64, Hi: float64(65-i) / 64})
	}
	for i := range 64 {
		x := (float64(i) + 0.5) / 64
		first := slices.IndexFunc(l, func(r api.Range) bool { return r.Lo <= x && x < r.Hi })
		if got, ok := place.Find(l, x); !ok || got != l[first] {
			t.Errorf("P4.4: Find of %v is %+v, %v", x, got, ok)
		}
	}
}

// P4.5

func TestEven(t *testing.T) {
	for n := 1; n <= 12; n++ {
		l, e := place.Even(n)
		if e != api.OK || len(l) != n {
			t.Fatalf("P4.5: Even(%d) is %+v, %d", n, l, e)
		}
		for i, r := range l {
			want := api.Range{ID: i + 1, Lo: float64(i) / float64(n), Hi: float64(i+1) / float64(n)}
			if !sameRange(r, want) {
				t.Errorf("P4.5: Even(%d) has %+v, not %+v", n, r, want)
			}
		}
		wantCheck(t, l, api.OK)
	}
	for _, n := range []int{0, -1, 13, 14, 1 << 40, math.MaxInt, math.MinInt} {
		if l, e := place.Even(n); len(l) != 0 || e != api.ErrRange {
			t.Errorf("P4.5: Even(%d) is %+v, %d", n, l, e)
		}
	}
}

func TestEvenOfTwo(t *testing.T) {
	l, e := place.Even(2)
	if e != api.OK || !slices.Equal(l, []api.Range{{ID: 1, Hi: 0.5}, {ID: 2, Lo: 0.5, Hi: 1}}) {
		t.Errorf("P4.5: Even(2) is %+v, %d", l, e)
	}
}

func TestEvenIsNewMemory(t *testing.T) {
	l, _ := place.Even(3)
	for i := range l[:cap(l)] {
		l[:cap(l)][i] = api.Range{ID: -1}
	}
	if again, e := place.Even(3); e != api.OK || again[0] != (api.Range{ID: 1, Hi: 1.0 / 3}) || len(again) != 3 {
		t.Errorf("P0.4: Even(3) is %+v, %d", again, e)
	}
}

func wantSplit(t *testing.T, r api.Range, x float64, child int, lower, upper api.Range, want api.Errno) {
	t.Helper()
	a, b, e := place.Split(r, x, child)
	if !sameRange(a, lower) || !sameRange(b, upper) || e != want {
		t.Errorf("P4.5: Split(%+v, %v, %d) is %+v, %+v, %d, not %+v, %+v, %d", r, x, child, a, b, e, lower, upper, want)
	}
}

func TestSplit(t *testing.T) {
	for _, lo := range points() {
		for _, hi := range points() {
			for _, x := range points() {
				if !(lo < x && x < hi) {
					continue
				}
				r := api.Range{ID: 4, Epoch: 7, Lo: lo, Hi: hi}
				wantSplit(t, r, x, 9, api.Range{ID: 4, Epoch: 8, Lo: lo, Hi: x}, api.Range{ID: 9, Lo: x, Hi: hi}, api.OK)
			}
		}
	}
	for id := 1; id <= 12; id++ {
		for child := 1; child <= 12; child++ {
			r := api.Range{ID: id, Hi: 1}
			if id == child {
				wantSplit(t, r, 0.5, child, api.Range{}, api.Range{}, api.ErrRange)
			} else {
				wantSplit(t, r, 0.5, child, api.Range{ID: id, Epoch: 1, Hi: 0.5}, api.Range{ID: child, Lo: 0.5, Hi: 1}, api.OK)
			}
		}
	}
	last := api.Range{ID: 1, Epoch: math.MaxInt - 1, Hi: 0.5}
	wantSplit(t, last, 0.25, 3, api.Range{ID: 1, Epoch: math.MaxInt, Hi: 0.25}, api.Range{ID: 3, Lo: 0.25, Hi: 0.5}, api.OK)
}

func TestSplitTellsErrRange(t *testing.T) {
	none := api.Range{}
	r := api.Range{ID: 1, Lo: 0.25, Hi: 0.5}
	for _, wrong := range wrongRanges() {
		// At a point that also is not between.
		for _, x := range []float64{0.375, 1, wrong.Lo, wrong.Hi} {
			wantSplit(t, wrong, x, 3, none, none, api.ErrRange)
		}
	}
	for _, x := range notPoints() {
		wantSplit(t, r, x, 3, none, none, api.ErrRange)
		wantSplit(t, api.Range{ID: 1, Hi: 1}, x, 3, none, none, api.ErrRange)
	}
	for _, child := range []int{1, 0, -1, 13, math.MaxInt, math.MinInt} {
		for _, x := range []float64{0.375, 0.25, 0.5, 0, 1} {
			wantSplit(t, r, x, child, none, none, api.ErrRange)
		}
	}
	last := api.Range{ID: 1, Epoch: math.MaxInt, Lo: 0.25, Hi: 0.5}
	for _, x := range []float64{0.375, 0.25, 0.5, 0, 1} {
		wantSplit(t, last, x, 3, none, none, api.ErrRange)
	}
}

func TestSplitTellsErrNarrow(t *testing.T) {
	none := api.Range{}
	for _, r := range []api.Range{{ID: 1, Hi: 1}, {ID: 1, Lo: 0.25, Hi: 0.5}, {ID: 1, Hi: least}, {ID: 1, Lo: below, Hi: 1}, {ID: 1, Lo: gap, Hi: normal}} {
		for _, x := range points() {
			if x <= r.Lo || x >= r.Hi {
				wantSplit(t, r, x, 3, none, none, api.ErrNarrow)
			}
		}
	}
}

// P4.6

// wantOnePlace: the place of each of the keys lies in exactly one range, and that one is found.
func wantOnePlace(t *testing.T, l []api.Range, keys []string) {
	t.Helper()
	for _, key := range keys {
		x, n := place.Of(key), 0
		for _, r := range l {
			if place.In(r, x) {
				n++
			}
		}
		if r, ok := place.Find(l, x); n != 1 || !ok || !place.In(r, x) {
			t.Fatalf("P4.6: %q at %v lies in %d of %+v", key, x, n, l)
		}
	}
}

// splitAnywhere replaces a range of the cover by both results of a Split with a new ID.
func splitAnywhere(t *testing.T, l []api.Range, seed uint64) []api.Range {
	t.Helper()
	at := int(seed >> 40 % uint64(len(l)))
	r := l[at]
	x, e := place.Mid(r.Lo, r.Hi)
	if e != api.OK {
		t.Fatalf("P4.6: Mid(%v, %v): %d", r.Lo, r.Hi, e)
	}
	if far := r.Lo + (r.Hi-r.Lo)*float64(seed>>50)/(1<<14); r.Lo < far && far < r.Hi {
		x = far
	}
	child := 1
	for slices.ContainsFunc(l, func(other api.Range) bool { return other.ID == child }) {
		child++
	}
	lower, upper, e := place.Split(r, x, child)
	if e != api.OK {
		t.Fatalf("P4.6: Split(%+v, %v, %d): %d", r, x, child, e)
	}
	return slices.Concat(l[:at], []api.Range{upper, lower}, l[at+1:])
}

func TestOnePlace(t *testing.T) {
	all := keys()[:500]
	seed := uint64(6)
	for round := range 60 {
		l, _ := place.Even(round%12 + 1)
		for range 12 - len(l) {
			wantOnePlace(t, l, all)
			seed = next(seed)
			l = splitAnywhere(t, l, seed)
			wantCheck(t, l, api.OK)
		}
		wantOnePlace(t, l, all)
	}
}

// The floats around each edge of a cover lie in one range each, not only the places of keys.
func TestOnePlaceAtEdges(t *testing.T) {
	for n := 1; n <= 12; n++ {
		l, _ := place.Even(n)
		for _, r := range l {
			for _, x := range []float64{r.Lo, math.Nextafter(r.Lo, 1), math.Nextafter(r.Hi, 0)} {
				if got, ok := place.Find(l, x); !ok || got != r {
					t.Errorf("P4.6: Find of %v in Even(%d) is %+v, %v", x, n, got, ok)
				}
			}
		}
		if _, ok := place.Find(l, 1); ok {
			t.Errorf("P4.6: Even(%d) has the place 1", n)
		}
	}
}

func TestSplitOfFullCover(t *testing.T) {
	l, _ := place.Even(12)
	for _, child := range []int{0, 3, 13} {
		if _, _, e := place.Split(l[2], 0.2, child); e != api.ErrRange {
			t.Errorf("P4.5: Split for the child %d: %d", child, e)
		}
	}
	lower, upper, e := place.Split(l[2], 0.2, 4)
	if e != api.OK {
		t.Fatalf("P4.5: Split(%+v): %d", l[2], e)
	}
	wantCheck(t, slices.Concat(l[:2], []api.Range{lower, upper}, l[3:]), api.ErrMany)
}
