package dir_test

import (
	"math/rand"
	"slices"
	"testing"

	"headrace/api"
	"headrace/dir"
	"headrace/place"
)

// plain is a directory by its words: ranges in the order in which they were added.
type plain struct {
	ranges []api.Range
}

// learn is P14.2.
func (p *plain) learn(l []api.Range) int {
	count := 0
	for _, r := range l {
		i := slices.IndexFunc(p.ranges, func(known api.Range) bool { return known.ID == r.ID })
		switch {
		case !place.May(r):
			continue
		case i < 0:
			p.ranges = append(p.ranges, r)
		case r.Epoch > p.ranges[i].Epoch:
			p.ranges[i] = r
		default:
			continue
		}
		count++
	}
	return count
}

// route is the first point of P14.3.
func (p *plain) route(key string) (api.Range, bool) {
	best := api.Range{}
	if len(key) < 1 || len(key) > 24 {
		return best, false
	}
	for _, r := range p.ranges {
		if place.In(r, place.Of(key)) && r.ID > best.ID {
			best = r
		}
	}
	return best, best.ID > 0
}

// group is the second point of P14.3, ID by ID.
func (p *plain) group(passed []string) ([]dir.Group, api.Errno) {
	for _, key := range passed {
		if len(key) < 1 || len(key) > 24 {
			return nil, api.ErrName
		}
		if _, ok := p.route(key); !ok {
			return nil, api.ErrNone
		}
	}
	var l []dir.Group
	for _, r := range sorted(p.ranges) {
		var here []string
		for i, key := range passed {
			if to, _ := p.route(key); to == r && !slices.Contains(passed[:i], key) {
				here = append(here, key)
			}
		}
		if len(here) > 0 {
			l = append(l, dir.Group{Range: r, Keys: here})
		}
	}
	return l, api.OK
}

// someRange returns a range, which is valid more often than not.
func someRange(r *rand.Rand) api.Range {
	points := []float64{0, least, 0.25, placeB, 0.5, placeA, 0.75, below, 1, nan, minus, above}
	made := api.Range{ID: r.Intn(14), Epoch: r.Intn(8) - 1, Lo: points[r.Intn(5)], Hi: points[2+r.Intn(7)]}
	if r.Intn(9) == 0 {
		made.Lo = points[r.Intn(len(points))]
	}
	if r.Intn(9) == 0 {
		made.Hi = points[r.Intn(len(points))]
	}
	return made
}

// someKeys returns strings, most of them keys, some of them more than once.
func someKeys(r *rand.Rand) []string {
	l := slices.Concat(keys(12), []string{"a", "b", "c"})
	if r.Intn(4) == 0 {
		l = append(l, notKeys()[:3]...)
	}
	passed := make([]string, r.Intn(9))
	for i := range passed {
		passed[i] = l[r.Intn(len(l))]
	}
	return passed
}

// P14.1, P14.2, P14.3: whatever is learned, in whatever order.
func TestRowsOfCalls(t *testing.T) {
	told := make(map[api.Errno]int)
	for seed := range int64(400) {
		r := rand.New(rand.NewSource(seed))
		first := even(t, 1+r.Intn(api.MaxRanges))
		d := made(t, first...)
		p := &plain{ranges: slices.Clone(first)}
		for range 30 {
			l := make([]api.Range, r.Intn(4))
			for i := range l {
				l[i] = someRange(r)
			}
			learns(t, "P14.2", d, p.learn(l), l...)
			has(t, "P14.1", d, sorted(p.ranges)...)
			passed := someKeys(r)
			for _, key := range passed {
				if want, ok := p.route(key); ok {
					routed(t, "P14.3", d, key, want)
				} else {
					unrouted(t, "P14.3", d, key)
				}
			}
			want, e := p.group(passed)
			told[e]++
			if e == api.OK {
				grouped(t, "P14.3", d, passed, want...)
			} else {
				refused(t, "P14.3", d, e, passed...)
			}
		}
	}
	for _, e := range []api.Errno{api.OK, api.ErrName, api.ErrNone} {
		if told[e] < 100 {
			t.Errorf("P14.3: only %d cases have the error %d", told[e], e)
		}
	}
}
