package hand_test

import (
	"math"
	"testing"

	"headrace/api"
)

// busy has a history of each of eight keys, and four pending transactions that are not in the order of their Txns:
// one with keys on both sides of one half, one with keys below it, one with keys from it on, one without keys.
func busy() api.State {
	s := api.State{Range: api.Range{ID: 1, Epoch: 6, Hi: 1}, Floor: moment(20), Closed: moment(30)}
	for _, key := range []string{"a", "b", "c", "d", "e", "f", "g", "h"} {
		s.Histories = append(s.Histories, once(key, 3))
	}
	s.Histories[1].Versions = append(s.Histories[1].Versions, api.Version{Stamp: moment(4), Value: number(nan)}, api.Version{Stamp: moment(5)})
	s.Pending = []api.Pending{
		{Txn: txn(9), Stamp: moment(11), Reads: []string{"a", "b"}, Writes: []api.Write{put("c", nan), put("d", minusZero)}},
		{Txn: txn(2), Stamp: moment(12), Reads: []string{"e"}, Writes: []api.Write{{Key: "h"}}},
		{Txn: txn(7), Stamp: moment(10), Reads: []string{"a"}, Writes: []api.Write{put("f", 1)}},
		{Txn: txn(1), Stamp: moment(11)},
	}
	return s
}

// P15.1
func TestDivideOfKeysAndPending(t *testing.T) {
	s := busy()
	all, p := s.Histories, s.Pending
	left := api.State{Range: api.Range{ID: 1, Epoch: 7, Hi: 0.5}, Floor: moment(20), Closed: moment(30)}
	left.Histories = []api.History{all[1], all[2], all[4], all[6], all[7]}
	left.Pending = []api.Pending{
		{Txn: txn(9), Stamp: moment(11), Reads: []string{"b"}, Writes: []api.Write{put("c", nan)}}, p[1], {Txn: txn(7), Stamp: moment(10)}, p[3],
	}
	right := api.State{Range: api.Range{ID: 2, Lo: 0.5, Hi: 1}, Floor: api.Stamp{Wall: 50}, Closed: moment(40)}
	right.Histories = []api.History{all[0], all[3], all[5]}
	right.Pending = []api.Pending{{Txn: txn(9), Stamp: moment(11), Reads: []string{"a"}, Writes: []api.Write{put("d", minusZero)}}, p[2]}
	divides(t, "P15.1", at(s, 0.5), left, right)
}

// P15.1: a half without any key has what is pending as the other one has, or nothing.
func TestDivideBesideAllKeys(t *testing.T) {
	s := busy()
	left := empty(api.Range{ID: 1, Epoch: 7, Hi: 0.9})
	left.Floor, left.Closed, left.Histories, left.Pending = s.Floor, s.Closed, s.Histories, s.Pending
	right := api.State{Range: api.Range{ID: 2, Lo: 0.9, Hi: 1}, Floor: api.Stamp{Wall: 50}, Closed: moment(40)}
	divides(t, "P15.1", at(s, 0.9), left, right)

	left.Range.Hi, left.Histories, left.Pending = 0.1, nil, nil
	for _, p := range s.Pending {
		left.Pending = append(left.Pending, api.Pending{Txn: p.Txn, Stamp: p.Stamp})
	}
	right.Range.Lo, right.Histories, right.Pending = 0.1, s.Histories, s.Pending[:3]
	divides(t, "P15.1", at(s, 0.1), left, right)
}

// P15.1: a key whose place is the point belongs to the right.
func TestDivideAtAPlace(t *testing.T) {
	reader := api.Pending{Txn: txn(1), Stamp: moment(5), Reads: []string{"b"}}
	writer := api.Pending{Txn: txn(1), Stamp: moment(5), Writes: []api.Write{{Key: "b"}}}
	for _, s := range []api.State{
		{Range: everywhere(1), Histories: []api.History{once("b", 1)}}, {Range: everywhere(1), Pending: []api.Pending{reader}}, {Range: everywhere(1), Pending: []api.Pending{writer}},
	} {
		for _, point := range []float64{math.Nextafter(placeB, 0), placeB, math.Nextafter(placeB, 1)} {
			left := api.State{Range: api.Range{ID: 1, Epoch: 1, Hi: point}}
			right := api.State{Range: api.Range{ID: 2, Lo: point, Hi: 1}, Floor: api.Stamp{Wall: 50}, Closed: moment(40)}
			if placeB < point {
				left.Histories, left.Pending = s.Histories, s.Pending
			} else {
				right.Histories, right.Pending = s.Histories, s.Pending
				for range s.Pending {
					left.Pending = []api.Pending{{Txn: txn(1), Stamp: moment(5)}}
				}
			}
			divides(t, "P15.1", at(s, point), left, right)
		}
	}
}

// P15.1: both ends of the range, and the points beside them.
func TestDivideAtPoints(t *testing.T) {
	for _, r := range []api.Range{everywhere(1), {ID: 1, Lo: 0.25, Hi: 0.5}, {ID: 1, Lo: least, Hi: belowOne}, {ID: 1, Lo: 0.5, Hi: 1}, {ID: 1, Hi: 2 * least}} {
		s := empty(r)
		for _, point := range []float64{math.Nextafter(r.Lo, 1), math.Nextafter(r.Hi, 0)} {
			left, right := halves(t, "P15.1", at(s, point))
			is(t, "P15.1", left, empty(api.Range{ID: 1, Epoch: 1, Lo: r.Lo, Hi: point}))
			is(t, "P15.1", right, api.State{Range: api.Range{ID: 2, Lo: point, Hi: r.Hi}, Floor: api.Stamp{Wall: 50}, Closed: moment(40)})
		}
		for _, point := range []float64{0, r.Lo, r.Lo / 2, r.Hi, (1 + r.Hi) / 2, 1} {
			refuses(t, "P15.1", at(s, point), api.ErrNarrow)
		}
		for _, point := range []float64{minusZero, -least, -0.5, math.Nextafter(1, 2), 1.5, nan, otherNaN, math.Inf(1), math.Inf(-1)} {
			refuses(t, "P15.1", at(s, point), api.ErrRange)
		}
	}
	refuses(t, "P15.1", at(empty(api.Range{ID: 1, Lo: 0.5, Hi: aboveHalf}), 0.5), api.ErrNarrow)
	refuses(t, "P15.1", at(empty(api.Range{ID: 1, Lo: 0.5, Hi: aboveHalf}), aboveHalf), api.ErrNarrow)
}

// P15.1
func TestDivideForChildren(t *testing.T) {
	for id := 1; id <= 12; id++ {
		for child := -2; child <= 15; child++ {
			c := at(empty(everywhere(id)), 0.5)
			c.child = child
			if child < 1 || child > 12 || child == id {
				refuses(t, "P15.1", c, api.ErrRange)
				continue
			}
			right := api.State{Range: api.Range{ID: child, Lo: 0.5, Hi: 1}, Floor: c.floor, Closed: c.stamp}
			divides(t, "P15.1", c, empty(api.Range{ID: id, Epoch: 1, Hi: 0.5}), right)
		}
	}
	for _, child := range []int{math.MinInt, math.MaxInt} {
		c := at(empty(everywhere(1)), 0.5)
		c.child = child
		refuses(t, "P15.1", c, api.ErrRange)
	}
}

// P15.1: the epoch goes up to the greatest int.
func TestDivideOfEpochs(t *testing.T) {
	for _, epoch := range []int{0, 1, 77, math.MaxInt - 1} {
		s := empty(api.Range{ID: 1, Epoch: epoch, Hi: 1})
		right := api.State{Range: api.Range{ID: 2, Lo: 0.5, Hi: 1}, Floor: api.Stamp{Wall: 50}, Closed: moment(40)}
		divides(t, "P15.1", at(s, 0.5), empty(api.Range{ID: 1, Epoch: epoch + 1, Hi: 0.5}), right)
	}
	refuses(t, "P15.1", at(empty(api.Range{ID: 1, Epoch: math.MaxInt, Hi: 1}), 0.5), api.ErrRange)
	refuses(t, "P15.1", at(empty(api.Range{ID: 1, Epoch: math.MinInt, Hi: 1}), 0.5), api.ErrForm)
}

// P15.1: any valid stamps, whatever their order, go where they belong.
func TestDivideWithStamps(t *testing.T) {
	for _, first := range goodStamps() {
		for _, second := range goodStamps() {
			s := api.State{Range: everywhere(1), Floor: first, Closed: second}
			left := api.State{Range: api.Range{ID: 1, Epoch: 1, Hi: 0.5}, Floor: first, Closed: second}
			right := api.State{Range: api.Range{ID: 2, Lo: 0.5, Hi: 1}, Floor: first, Closed: second}
			divides(t, "P15.1", cut{s, 0.5, 2, second, first}, left, right)
		}
		for _, bad := range badStamps() {
			refuses(t, "P15.1", cut{busy(), 0.5, 2, bad, first}, api.ErrStamp)
			refuses(t, "P15.1", cut{busy(), 0.5, 2, first, bad}, api.ErrStamp)
			refuses(t, "P15.1", cut{busy(), 0.5, 2, bad, bad}, api.ErrStamp)
		}
	}
}

// P15.1: a state that is not valid comes ahead of stamps that are not, and these ahead of point and child.
func TestDivideErrorsInOrder(t *testing.T) {
	bad, good := badStamps()[0], moment(5)
	for _, s := range badStates() {
		for _, c := range []cut{{s, 0.5, 2, good, good}, {s, 0.5, 2, bad, good}, {s, 0.5, 2, good, bad}, {s, nan, 2, good, good}, {s, 0, 2, good, good}, {s, 0.5, 1, good, good}, {s, nan, 0, bad, bad}} {
			refuses(t, "P15.1", c, api.ErrForm)
		}
	}
	s := empty(everywhere(1))
	for _, c := range []cut{{s, nan, 2, bad, good}, {s, 0, 2, good, bad}, {s, 0.5, 1, bad, good}, {s, 0.5, 1, good, bad}, {empty(api.Range{ID: 1, Epoch: math.MaxInt, Hi: 1}), 0.5, 2, bad, good}} {
		refuses(t, "P15.1", c, api.ErrStamp)
	}
	refuses(t, "P15.1", cut{s, 0, 1, good, good}, api.ErrRange)
	refuses(t, "P15.1", cut{empty(api.Range{ID: 1, Epoch: math.MaxInt, Hi: 1}), 1, 2, good, good}, api.ErrRange)
}

// P15.1: a transaction may have as many keys as there may be, all on one side or not.
func TestDivideOfManyKeys(t *testing.T) {
	p := api.Pending{Txn: txn(1), Stamp: moment(5)}
	for i := range 16 {
		key := string(rune('A' + i))
		p.Reads = append(p.Reads, key)
		p.Writes = append(p.Writes, put(key, float64(i)))
	}
	s := api.State{Range: everywhere(1), Pending: []api.Pending{p}}
	for _, point := range []float64{least, 0.25, 0.5, 0.75, belowOne} {
		left, right := halves(t, "P15.1", at(s, point))
		if len(left.Pending) != 1 || len(left.Pending[0].Reads) != len(left.Pending[0].Writes) {
			t.Fatalf("P15.1: at %v: %s", point, text(left))
		}
		if n := len(left.Pending[0].Reads); (n < 16) != (len(right.Pending) == 1) {
			t.Fatalf("P15.1: at %v: %s", point, text(right))
		}
		rejoins(t, "P15.5", left, right, s)
	}
}
