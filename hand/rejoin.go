package hand

import (
	"cmp"
	"math"
	"slices"

	"headrace/api"
	"headrace/recs"
)

// prepared tells which transaction is pending, and from which stamp on.
type prepared struct {
	txn   api.Txn
	stamp api.Stamp
}

// Rejoin returns the state of which Divide made left and right.
func Rejoin(left, right api.State) (api.State, api.Errno) {
	if !recs.StateMay(left) || !recs.StateMay(right) {
		return api.State{}, api.ErrForm
	}
	if !isSplit(left.Range, right.Range) {
		return api.State{}, api.ErrState
	}
	pending, ok := joinPending(left.Pending, right.Pending)
	if !ok {
		return api.State{}, api.ErrState
	}
	s := api.State{Range: left.Range, Floor: left.Floor, Closed: left.Closed, Pending: pending}
	s.Range.Epoch--
	s.Range.Hi = right.Range.Hi
	s.Histories = join(copied(left.Histories), copied(right.Histories), historyKey)
	return s, api.OK
}

// isSplit tells whether a range may have been split into these two.
func isSplit(left, right api.Range) bool {
	meets := math.Float64bits(left.Hi) == math.Float64bits(right.Lo)
	return meets && left.Epoch > 0 && left.ID != right.ID
}

// joinPending gives what is pending on the left the keys that it has on the right, and tells whether that leaves
// nothing on the right.
func joinPending(left, right []api.Pending) ([]api.Pending, bool) {
	rest := make(map[prepared]api.Pending)
	for _, p := range right {
		rest[prepared{p.Txn, p.Stamp}] = p
	}
	l := make([]api.Pending, 0, len(left))
	for _, p := range left {
		which := prepared{p.Txn, p.Stamp}
		other := rest[which]
		delete(rest, which)
		p.Reads = join(p.Reads, other.Reads, itself)
		p.Writes = join(p.Writes, other.Writes, writeKey)
		l = append(l, p)
	}
	return l, len(rest) == 0
}

// join returns both lists as one, in the order of the keys.
func join[E any](left, right []E, key func(E) string) []E {
	l := slices.Concat(left, right)
	slices.SortFunc(l, func(a, b E) int { return cmp.Compare(key(a), key(b)) })
	return l
}

// copied returns the histories with versions of their own.
func copied(l []api.History) []api.History {
	l = slices.Clone(l)
	for i := range l {
		l[i].Versions = slices.Clone(l[i].Versions)
	}
	return l
}
