package dir_test

import (
	"math"
	"slices"
	"testing"

	"headrace/api"
	"headrace/dir"
	"headrace/place"
)

var (
	inf   = math.Inf(1)
	minus = math.Copysign(0, -1)
	nan   = math.NaN()
	least = math.Float64frombits(1)
	below = math.Nextafter(1, 0)
	above = math.Nextafter(1, 2)
)

// even makes a cover of n ranges.
func even(t *testing.T, n int) []api.Range {
	t.Helper()
	l, e := place.Even(n)
	expect(t, "P4.5: Even", api.OK, e)
	return l
}

// made makes a directory of these ranges.
func made(t *testing.T, l ...api.Range) *dir.Dir {
	t.Helper()
	d, e := dir.New(l)
	expect(t, "P14.1: New", api.OK, e)
	return d
}

// expect holds an error to the one that is wanted.
func expect(t *testing.T, what string, want, got api.Errno) {
	t.Helper()
	if got != want {
		t.Fatalf("%s: error %d, not %d", what, got, want)
	}
}

// has holds a directory to these ranges.
func has(t *testing.T, what string, d *dir.Dir, want ...api.Range) {
	t.Helper()
	if got := d.List(); !slices.Equal(got, want) {
		t.Fatalf("%s: the ranges %+v, not %+v", what, got, want)
	}
}

// learns holds a Learn to the number that is wanted.
func learns(t *testing.T, what string, d *dir.Dir, want int, l ...api.Range) {
	t.Helper()
	if got := d.Learn(l); got != want {
		t.Fatalf("%s: Learn of %+v returns %d, not %d", what, l, got, want)
	}
}

// invalid lists ranges that are not valid, most of them for one reason alone.
func invalid() []api.Range {
	l := []api.Range{
		{}, {ID: 0, Hi: 1}, {ID: -1, Hi: 1}, {ID: api.MaxRanges + 1, Hi: 1}, {ID: math.MinInt, Hi: 1}, {ID: math.MaxInt, Hi: 1},
		{ID: 1, Epoch: -1, Hi: 1}, {ID: 5, Epoch: math.MinInt, Hi: 1},
		{ID: 1, Epoch: 9}, {ID: 5, Epoch: 9, Lo: 0.5, Hi: 0.5}, {ID: 5, Epoch: 9, Lo: 0.5, Hi: 0.25}, {ID: 1, Epoch: 9, Lo: 1, Hi: 1},
	}
	for _, x := range []float64{minus, -least, -1, above, 2, inf, -inf, nan, -nan} {
		l = append(l, api.Range{ID: 1, Epoch: 9, Lo: x, Hi: 1}, api.Range{ID: 5, Epoch: 9, Hi: x}, api.Range{ID: 5, Epoch: 9, Lo: x, Hi: x})
	}
	return l
}

func TestExamples(t *testing.T) {
	d := made(t, even(t, 2)...)
	halves := []api.Range{{ID: 1, Epoch: 1, Lo: 0, Hi: 0.25}, {ID: 3, Epoch: 0, Lo: 0.25, Hi: 0.5}}
	learns(t, "P14.2", d, 2, halves...)
	learns(t, "P14.2: once more", d, 0, halves...)
	has(t, "P14.1", d, halves[0], api.Range{ID: 2, Lo: 0.5, Hi: 1}, halves[1])
	learns(t, "P14.2: not valid", d, 0, api.Range{ID: 2, Epoch: -1, Lo: 0, Hi: 1})
	learns(t, "P14.2: the same Epoch", d, 0, api.Range{ID: 3, Epoch: 0, Lo: 0, Hi: 1})
	unrouted(t, "P14.3", d, "")
}

// P14.1

func TestNew(t *testing.T) {
	for n := 1; n <= api.MaxRanges; n++ {
		l := even(t, n)
		has(t, "P14.1", made(t, l...), l...)
		for i := range l {
			l[i].ID = api.MaxRanges - i
			l[i].Epoch = i * 7
		}
		d := made(t, l...)
		slices.Reverse(l)
		has(t, "P14.1: descending", d, l...)
	}
	odd := []api.Range{{ID: 7, Epoch: math.MaxInt, Lo: least, Hi: below}, {ID: 12, Lo: below, Hi: 1}, {ID: 3, Epoch: 2, Hi: least}}
	has(t, "P14.1", made(t, odd...), odd[2], odd[0], odd[1])
}

func TestNewOfNoCover(t *testing.T) {
	half, rest := api.Range{ID: 1, Hi: 0.5}, api.Range{ID: 2, Lo: 0.5, Hi: 1}
	l := [][]api.Range{
		nil, {}, make([]api.Range, api.MaxRanges+1), append(even(t, api.MaxRanges), half), {half}, {rest}, {half, half}, {half, rest, half},
		{half, {ID: 2, Lo: 0.25, Hi: 1}}, {half, {ID: 2, Lo: math.Nextafter(0.5, 1), Hi: 1}}, {half, {ID: 2, Lo: 0.5, Hi: below}},
		{{ID: 1, Hi: 1}, {ID: 2, Hi: 1}}, {half, {ID: 1, Lo: 0.5, Hi: 1}}, {half, {}, half}, {half, half, {}}, {{ID: 1, Hi: nan}, rest},
	}
	for _, r := range invalid() {
		l = append(l, []api.Range{r}, []api.Range{half, rest, r}, []api.Range{r, half, rest})
	}
	told := make(map[api.Errno]bool)
	for _, c := range l {
		want := place.Check(c)
		d, e := dir.New(c)
		expect(t, "P14.1: New of what is no cover", want, e)
		if d != nil || e == api.OK {
			t.Errorf("P14.1: New of %+v returns a directory, or no error", c)
		}
		told[e] = true
	}
	for _, e := range []api.Errno{api.ErrNone, api.ErrMany, api.ErrRange, api.ErrTwice, api.ErrState} {
		if !told[e] {
			t.Errorf("P14.1: no case has the error %d", e)
		}
	}
}

func TestDirectoriesAreApart(t *testing.T) {
	l := even(t, 2)
	a, b := made(t, l...), made(t, l...)
	learns(t, "P14.2", a, 1, api.Range{ID: 2, Epoch: 1, Lo: 0.5, Hi: 0.75})
	has(t, "P14.1", b, l...)
	has(t, "P14.1", made(t, l...), l...)
}

// P14.2

func TestLearnOfWhatIsNotValid(t *testing.T) {
	l := even(t, 2)
	d := made(t, l...)
	for _, r := range invalid() {
		learns(t, "P14.2: not valid", d, 0, r)
		has(t, "P14.2: not valid", d, l...)
	}
	learns(t, "P14.2: not valid", d, 0, invalid()...)
	learns(t, "P14.2: no ranges", d, 0)
	has(t, "P14.2", d, l...)
	// What is not valid keeps nothing else from being learned.
	news := api.Range{ID: 9, Lo: 0.25, Hi: 0.5}
	learns(t, "P14.2", d, 1, slices.Concat(invalid(), []api.Range{news}, invalid())...)
	has(t, "P14.2", d, append(l, news)...)
}

func TestLearnOfNewIDs(t *testing.T) {
	whole := api.Range{ID: 5, Hi: 1}
	d := made(t, whole)
	var l []api.Range
	for id := 1; id <= api.MaxRanges; id++ {
		r := api.Range{ID: id, Epoch: id % 3 * (math.MaxInt / 2), Lo: float64(id) / 16, Hi: 1}
		if id == whole.ID {
			r = whole
		}
		l = append(l, r)
	}
	news := slices.Concat(l[5:], l[:4])
	for i, r := range news {
		learns(t, "P14.2: a new ID", d, 1, r)
		learns(t, "P14.2: no new ID", d, 0, r, whole)
		if got := len(d.List()); got != i+2 {
			t.Fatalf("P14.2: %d ranges, not %d", got, i+2)
		}
	}
	has(t, "P14.1: all IDs", d, l...)
}

func TestLearnOfEpochs(t *testing.T) {
	other := api.Range{ID: 1, Epoch: 3, Hi: 0.5}
	epochs := []int{0, 1, 2, 3, 1 << 40, math.MaxInt - 1, math.MaxInt}
	for _, old := range epochs {
		for _, epoch := range epochs {
			known := api.Range{ID: 2, Epoch: old, Lo: 0.5, Hi: 1}
			r := api.Range{ID: 2, Epoch: epoch, Lo: 0.25, Hi: 0.75}
			d := made(t, known, other)
			if epoch > old {
				learns(t, "P14.2: a greater Epoch", d, 1, r)
				has(t, "P14.2: a greater Epoch", d, other, r)
			} else {
				learns(t, "P14.2: no greater Epoch", d, 0, r)
				has(t, "P14.2: no greater Epoch", d, other, known)
			}
			learns(t, "P14.2: both once more", d, 0, known, r)
		}
	}
}

// Each range is held against what the ones before it in the same list made.
func TestLearnInOrder(t *testing.T) {
	at := func(epoch int, hi float64) api.Range { return api.Range{ID: 4, Epoch: epoch, Hi: hi} }
	for _, c := range []struct {
		l    []api.Range
		n    int
		last api.Range
	}{
		{[]api.Range{at(0, 0.5), at(1, 0.25)}, 2, at(1, 0.25)},
		{[]api.Range{at(1, 0.25), at(0, 0.5)}, 1, at(1, 0.25)},
		{[]api.Range{at(0, 0.5), at(0, 0.25)}, 1, at(0, 0.5)},
		{[]api.Range{at(0, 0.5), at(2, 0.25), at(1, 0.75), at(3, 0.125), at(3, 1)}, 3, at(3, 0.125)},
		{[]api.Range{at(-1, 1), at(0, 0.5), at(7, nan), at(1, 0.25)}, 2, at(1, 0.25)},
	} {
		whole := api.Range{ID: 1, Hi: 1}
		d := made(t, whole)
		learns(t, "P14.2", d, c.n, c.l...)
		has(t, "P14.2", d, whole, c.last)
	}
}
