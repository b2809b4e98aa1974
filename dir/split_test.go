package dir_test

import (
	"math/rand"
	"slices"
	"testing"

	"headrace/api"
	"headrace/dir"
	"headrace/place"
)

// P14.5

// divided makes both halves of a split.
func divided(t *testing.T, r api.Range, x float64, child int) (api.Range, api.Range) {
	t.Helper()
	lower, upper, e := place.Split(r, x, child)
	expect(t, "P4.5: Split", api.OK, e)
	return lower, upper
}

// inHalves holds the Route of every key to the first of these ranges that has its place, and to none if none has it.
func inHalves(t *testing.T, d *dir.Dir, learned ...api.Range) {
	t.Helper()
	for _, key := range keys(60) {
		i := slices.IndexFunc(learned, func(r api.Range) bool { return place.In(r, place.Of(key)) })
		if i < 0 {
			unrouted(t, "P14.5: the other half", d, key)
		} else {
			routed(t, "P14.5", d, key, learned[i])
		}
	}
}

func TestSplit(t *testing.T) {
	for _, x := range []float64{least, 0.001, 0.25, placeB, 0.5, placeA, 0.999, below} {
		parent := api.Range{ID: 4, Epoch: 6, Hi: 1}
		lower, upper := divided(t, parent, x, 5)
		for _, l := range [][]api.Range{
			{lower, upper}, {upper, lower}, {upper, upper, lower, upper, lower}, {lower, parent, upper, parent, lower}, {parent, upper, parent, lower},
		} {
			d := made(t, parent)
			for _, r := range l {
				d.Learn([]api.Range{r})
			}
			inHalves(t, d, lower, upper)
			d = made(t, parent)
			learns(t, "P14.2", d, 2, l...)
			inHalves(t, d, lower, upper)
			learns(t, "P14.2", d, 0, l...)
			inHalves(t, d, lower, upper)
		}
	}
}

func TestSplitOfWhichOneHalfIsKnown(t *testing.T) {
	for _, x := range []float64{least, 0.25, placeB, 0.5, placeA, below} {
		parent := api.Range{ID: 4, Epoch: 6, Hi: 1}
		lower, upper := divided(t, parent, x, 5)
		d := made(t, parent)
		learns(t, "P14.2", d, 1, lower, lower, parent)
		inHalves(t, d, lower)
		learns(t, "P14.2", d, 1, upper)
		inHalves(t, d, lower, upper)
		d = made(t, parent)
		learns(t, "P14.2", d, 1, upper, upper, parent)
		inHalves(t, d, upper, parent)
		learns(t, "P14.2", d, 1, lower)
		inHalves(t, d, lower, upper)
	}
}

// Whatever is learned of rows of splits, and in whatever order, in the end every key has its place's range.
func TestRowsOfSplits(t *testing.T) {
	for seed := range int64(200) {
		r := rand.New(rand.NewSource(seed))
		n := 1 + r.Intn(4)
		cover := even(t, n)
		d := made(t, cover...)
		told := slices.Clone(cover)
		for child := n + 1; child <= api.MaxRanges; child++ {
			i := r.Intn(len(cover))
			x, e := place.Mid(cover[i].Lo, cover[i].Hi)
			expect(t, "P4.2: Mid", api.OK, e)
			lower, upper := divided(t, cover[i], x, child)
			cover[i] = lower
			cover = append(cover, upper)
			told = append(told, lower, upper)
		}
		r.Shuffle(len(told), func(a, b int) { told[a], told[b] = told[b], told[a] })
		d.Learn(told)
		r.Shuffle(len(told), func(a, b int) { told[a], told[b] = told[b], told[a] })
		learns(t, "P14.5: repeatedly", d, 0, told...)
		has(t, "P14.5", d, sorted(cover)...)
		inHalves(t, d, cover...)
	}
}

// sorted lists the ranges in the order of their IDs.
func sorted(l []api.Range) []api.Range {
	return slices.SortedFunc(slices.Values(l), func(a, b api.Range) int { return a.ID - b.ID })
}
