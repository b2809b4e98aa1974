package place

import (
	"math"
	"slices"

	"headrace/api"
	"headrace/num"
)

// In reports whether the range has the place x.
func In(r api.Range, x float64) bool {
	// Not by turning x < r.Lo round: that would let a NaN in.
	return x >= r.Lo && x < r.Hi
}

// May reports whether r is a valid range.
func May(r api.Range) bool {
	return isID(r.ID) && r.Epoch >= 0 && isPoint(r.Lo) && isPoint(r.Hi) && r.Lo < r.Hi
}

// isID tells whether a range may have this ID.
func isID(id int) bool {
	return id >= 1 && id <= api.MaxRanges
}

// Check returns OK if the ranges are valid, each with an ID of its own, and together a cover.
func Check(l []api.Range) api.Errno {
	switch {
	case len(l) == 0:
		return api.ErrNone
	case len(l) > api.MaxRanges:
		return api.ErrMany
	}
	var taken [api.MaxRanges + 1]bool
	for _, r := range l {
		if !May(r) {
			return api.ErrRange
		}
		if taken[r.ID] {
			return api.ErrTwice
		}
		taken[r.ID] = true
	}
	if !isCover(l) {
		return api.ErrState
	}
	return api.OK
}

// isCover tells whether the ranges, all of them valid, leave no place out and share none: this is
// so if in ascending order each begins where the one before it ends.
func isCover(l []api.Range) bool {
	ascending := slices.Clone(l)
	slices.SortFunc(ascending, func(a, b api.Range) int { return num.Compare(a.Lo, b.Lo) })
	end := 0.0
	for _, r := range ascending {
		if r.Lo != end {
			return false
		}
		end = r.Hi
	}
	return end == 1
}

// Find returns the first range that has the place x, and whether there is one.
func Find(l []api.Range, x float64) (api.Range, bool) {
	for _, r := range l {
		if In(r, x) {
			return r, true
		}
	}
	return api.Range{}, false
}

// Even returns a cover of n ranges that are as long as one another.
func Even(n int) ([]api.Range, api.Errno) {
	if n < 1 || n > api.MaxRanges {
		return nil, api.ErrRange
	}
	var l []api.Range
	for i := range n {
		l = append(l, api.Range{ID: i + 1, Lo: part(i, n), Hi: part(i+1, n)})
	}
	return l, api.OK
}

// part returns i / n: a range begins with the same float with which the one before it ends.
func part(i, n int) float64 {
	return num.Div(float64(i), float64(n))
}

// Split divides r at x: the lower part stays r's, in its next epoch, and the upper part is the child's.
func Split(r api.Range, x float64, child int) (api.Range, api.Range, api.Errno) {
	if !May(r) || r.Epoch == math.MaxInt || !isID(child) || child == r.ID || !isPoint(x) {
		return api.Range{}, api.Range{}, api.ErrRange
	}
	if !isBetween(r.Lo, x, r.Hi) {
		return api.Range{}, api.Range{}, api.ErrNarrow
	}
	lower := api.Range{ID: r.ID, Epoch: r.Epoch + 1, Lo: r.Lo, Hi: x}
	upper := api.Range{ID: child, Lo: x, Hi: r.Hi}
	return lower, upper, api.OK
}
