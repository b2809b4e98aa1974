package hand_test

import (
	"math"
	"slices"
	"strconv"
	"testing"

	"headrace/api"
)

// both returns two halves that fit, with keys and what is pending.
func both(t *testing.T) (api.State, api.State) {
	t.Helper()
	return halves(t, "P15.1", at(busy(), 0.5))
}

// P15.3: histories and keys of both halves by turns.
func TestRejoinInTheOrderOfKeys(t *testing.T) {
	left := api.State{Range: api.Range{ID: 3, Epoch: 1, Lo: 0.1, Hi: 0.5}, Floor: moment(1), Closed: moment(2)}
	left.Histories = []api.History{once("b", 1), once("e", 2), once("h", 3)}
	left.Pending = []api.Pending{
		{Txn: txn(5), Stamp: moment(9), Reads: []string{"c", "g"}, Writes: []api.Write{put("b", 1), put("e", 2)}},
		{Txn: txn(2), Stamp: moment(8), Reads: []string{"c"}},
		{Txn: txn(3), Stamp: moment(7)},
		{Txn: txn(4), Stamp: moment(7), Writes: []api.Write{put("h", nan)}},
	}
	right := api.State{Range: api.Range{ID: 1, Epoch: 8, Lo: 0.5, Hi: 0.9}, Floor: moment(3), Closed: moment(4)}
	right.Histories = []api.History{once("a", 4), once("d", 5), once("f", 6)}
	right.Pending = []api.Pending{
		{Txn: txn(3), Stamp: moment(7), Reads: []string{"a"}, Writes: []api.Write{put("f", minusZero)}},
		{Txn: txn(5), Stamp: moment(9), Reads: []string{"a"}, Writes: []api.Write{put("d", 3)}},
	}
	want := api.State{Range: api.Range{ID: 3, Lo: 0.1, Hi: 0.9}, Floor: moment(1), Closed: moment(2)}
	want.Histories = []api.History{once("a", 4), once("b", 1), once("d", 5), once("e", 2), once("f", 6), once("h", 3)}
	want.Pending = []api.Pending{
		{Txn: txn(5), Stamp: moment(9), Reads: []string{"a", "c", "g"}, Writes: []api.Write{put("b", 1), put("d", 3), put("e", 2)}},
		left.Pending[1], right.Pending[0], left.Pending[3],
	}
	rejoins(t, "P15.3", left, right, want)
}

// P15.3: what the right half has beside its keys doesn't count.
func TestRejoinTakesTimesOfTheLeft(t *testing.T) {
	for _, first := range goodStamps() {
		for _, second := range goodStamps() {
			left, right := both(t)
			left.Floor, left.Closed = first, second
			right.Floor, right.Closed, right.Range.Epoch = second, first, first.Logical
			want := busy()
			want.Floor, want.Closed = first, second
			rejoins(t, "P15.3", left, right, want)
		}
	}
}

// P15.3
func TestRejoinOfEpochs(t *testing.T) {
	left, right := empty(api.Range{ID: 1, Hi: 0.5}), empty(api.Range{ID: 2, Lo: 0.5, Hi: 1})
	parts(t, "P15.3", left, right, api.ErrState)
	for _, epoch := range []int{1, 2, 77, math.MaxInt} {
		for _, other := range []int{0, 1, math.MaxInt} {
			left.Range.Epoch, right.Range.Epoch = epoch, other
			rejoins(t, "P15.3", left, right, empty(api.Range{ID: 1, Epoch: epoch - 1, Hi: 1}))
		}
	}
}

// P15.3: any two IDs, but not twice the same.
func TestRejoinOfIDs(t *testing.T) {
	for id := 1; id <= 12; id++ {
		for child := 1; child <= 12; child++ {
			left, right := empty(api.Range{ID: id, Epoch: 1, Hi: 0.5}), empty(api.Range{ID: child, Lo: 0.5, Hi: 1})
			if id == child {
				parts(t, "P15.3", left, right, api.ErrState)
				continue
			}
			rejoins(t, "P15.3", left, right, empty(everywhere(id)))
		}
	}
}

// P15.3: between the halves is neither a gap nor a place of both.
func TestRejoinWhereTheyMeet(t *testing.T) {
	meets := func(hi, lo float64) (api.State, api.State) {
		return empty(api.Range{ID: 1, Epoch: 1, Hi: hi}), empty(api.Range{ID: 2, Lo: lo, Hi: 1})
	}
	for _, x := range []float64{least, 0.25, belowHalf, 0.5, belowOne} {
		left, right := meets(x, x)
		rejoins(t, "P15.3", left, right, empty(everywhere(1)))
	}
	for _, c := range [][2]float64{{0.5, belowHalf}, {0.5, aboveHalf}, {belowHalf, 0.5}, {aboveHalf, 0.5}, {0.25, 0.75}, {0.75, 0.25}, {1, 0}, {least, 0}, {least, 2 * least}, {1, belowOne}} {
		left, right := meets(c[0], c[1])
		parts(t, "P15.3", left, right, api.ErrState)
	}
	left, right := both(t)
	right.Range.Epoch = 1
	parts(t, "P15.3: the other way round", right, left, api.ErrState)
}

// P15.3: all that is pending on the right is pending on the left, from the same stamp on.
func TestRejoinOfPending(t *testing.T) {
	for i, change := range []func(left, right *api.State){
		func(left, right *api.State) { right.Pending[0].Txn.Coord = 2 },
		func(left, right *api.State) { right.Pending[0].Txn.Life = 2 },
		func(left, right *api.State) { right.Pending[0].Txn.Seq = 8 },
		func(left, right *api.State) { right.Pending[1].Txn.Seq = 8 },
		func(left, right *api.State) { right.Pending[0].Txn.Seq = 2 },
		func(left, right *api.State) { right.Pending[0].Stamp.Wall-- },
		func(left, right *api.State) { right.Pending[1].Stamp.Logical++ },
		func(left, right *api.State) { left.Pending[0].Stamp.Node++ },
		func(left, right *api.State) { left.Pending[2].Stamp = left.Pending[0].Stamp },
		func(left, right *api.State) { left.Pending = nil },
		func(left, right *api.State) { left.Pending = left.Pending[:2] },
		func(left, right *api.State) { left.Pending = left.Pending[1:] },
		func(left, right *api.State) {
			right.Pending = append(right.Pending, api.Pending{Txn: txn(3), Stamp: moment(11)})
		},
	} {
		left, right := both(t)
		change(&left, &right)
		parts(t, "P15.3: change "+strconv.Itoa(i), left, right, api.ErrState)
	}
}

// P15.3: the left half may have more pending than the right one, and both may have it in any order.
func TestRejoinOfMorePending(t *testing.T) {
	left, right := both(t)
	want := busy()
	slices.Reverse(right.Pending)
	rejoins(t, "P15.3", left, right, want)
	slices.Reverse(left.Pending)
	slices.Reverse(want.Pending)
	rejoins(t, "P15.3", left, right, want)
	right.Pending = append(right.Pending, api.Pending{Txn: txn(1), Stamp: moment(11)})
	rejoins(t, "P15.3: pending without keys on both sides", left, right, want)
	right.Pending = nil
	want.Pending = left.Pending
	rejoins(t, "P15.3: nothing pending on the right", left, right, want)
	left.Histories, left.Pending, right.Histories = nil, nil, nil
	want.Histories, want.Pending = nil, nil
	rejoins(t, "P15.3: nothing at all", left, right, want)
}

// P15.3: no error is told of a transaction that has more keys in both halves than it may have in one.
func TestRejoinOfTooManyKeys(t *testing.T) {
	var writes []api.Write
	for i := range 60 {
		writes = append(writes, put(string(rune('0'+i)), float64(i)))
	}
	lower, upper := halfOf(writes, 0.5, true)[:16], halfOf(writes, 0.5, false)[:16]
	left, right := empty(api.Range{ID: 1, Epoch: 1, Hi: 0.5}), empty(api.Range{ID: 2, Lo: 0.5, Hi: 1})
	left.Pending = []api.Pending{{Txn: txn(1), Stamp: moment(5), Writes: lower}}
	right.Pending = []api.Pending{{Txn: txn(1), Stamp: moment(5), Writes: upper}}
	all := slices.Concat(lower, upper)
	slices.SortFunc(all, func(a, b api.Write) int { return int(a.Key[0]) - int(b.Key[0]) })
	want := empty(everywhere(1))
	want.Pending = []api.Pending{{Txn: txn(1), Stamp: moment(5), Writes: all}}
	rejoins(t, "P15.3", left, right, want)
}

// P15.3: a half that is not valid comes ahead of halves that don't fit.
func TestRejoinErrorsInOrder(t *testing.T) {
	for _, s := range badStates() {
		// A bad half with a place for the other one, on the left and on the right, which is good.
		left, right := s, s
		if left.Range.Hi == 1 {
			left.Range.Hi = 0.7
		}
		if math.Float64bits(right.Range.Lo) == 0 {
			right.Range.Lo = 0.3
		}
		for epoch := range 2 {
			if s.Range.Epoch == 0 {
				left.Range.Epoch = epoch
			}
			parts(t, "P15.3", left, empty(api.Range{ID: 2, Lo: left.Range.Hi, Hi: 1}), api.ErrForm)
			parts(t, "P15.3", left, empty(everywhere(1)), api.ErrForm)
			parts(t, "P15.3", empty(api.Range{ID: 2, Epoch: epoch, Hi: right.Range.Lo}), right, api.ErrForm)
			parts(t, "P15.3", empty(everywhere(1)), right, api.ErrForm)
		}
		parts(t, "P15.3", s, s, api.ErrForm)
	}
	left, right := both(t)
	right.Pending[0].Stamp.Wall--
	right.Range.Hi = 1.5
	parts(t, "P15.3", left, right, api.ErrForm)
}
