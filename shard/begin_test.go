package shard_test

import (
	"fmt"
	"math"
	"strings"
	"testing"

	"headrace/api"
	"headrace/disk"
)

// badStates lists states that the node 1 can't be born with.
func badStates() []api.State {
	l := []api.State{
		{}, {Range: upper}, {Range: api.Range{Hi: 1}}, {Range: api.Range{ID: 13, Hi: 1}}, {Range: api.Range{ID: 1}}, {Range: api.Range{ID: 1, Epoch: -1, Hi: 1}},
		{Range: api.Range{ID: 1, Lo: 0.5, Hi: 0.25}}, {Range: api.Range{ID: 1, Lo: math.Copysign(0, -1), Hi: 1}}, {Range: api.Range{ID: 1, Hi: nan}},
		{Range: whole, Floor: at(-1, 0, 0)}, {Range: whole, Floor: at(api.MaxWall+1, 0, 0)}, {Range: whole, Closed: at(0, 0, 64)},
		{Range: lower, Histories: []api.History{once(highA, at(1, 0, 1), 1)}}, {Range: whole, Histories: []api.History{{Key: "a"}}}, {Range: whole, Histories: []api.History{once("a", at(1, 0, 1), math.Float64frombits(0x7FF8000000000001))}},
		{Range: lower, Pending: []api.Pending{{Txn: t1, Stamp: at(1, 0, 1), Reads: []string{highA}}}}, {Range: whole, Pending: []api.Pending{{Txn: t1}}}, {Range: whole, Pending: []api.Pending{{Stamp: at(1, 0, 1)}}},
	}
	return l
}

// many returns n histories of the keys that are made of a letter, each with a text of the most bytes.
func many(n int) []api.History {
	var l []api.History
	for i := range n {
		value := api.Value{Kind: api.Text, Text: strings.Repeat("x", api.MaxText)}
		l = append(l, api.History{Key: fmt.Sprintf("k%023d", i), Versions: []api.Version{{Stamp: at(1, 0, 1), Value: value}}})
	}
	return l
}

// P16.2
func TestBeginErrors(t *testing.T) {
	r := raw(t, disk.New(), 1)
	r.silent("P16.2: a Begin with an error", func() {
		for _, s := range badStates() {
			same(t, "P16.2: "+text(s), r.n.Begin(s), api.ErrForm)
			zero(t, "P16.2: "+text(s), r.n, false)
		}
		same(t, "P16.2: too long", r.n.Begin(api.State{Range: whole, Histories: many(3000)}), api.ErrLong)
		zero(t, "P16.2: too long", r.n, false)
	})
	r.fill(10)
	r.silent("P16.2", func() {
		same(t, "P16.2: a full disk", r.n.Begin(api.State{Range: whole}), api.ErrFull)
		same(t, "P16.2: ErrForm comes ahead of the log's error", r.n.Begin(api.State{Range: upper}), api.ErrForm)
		zero(t, "P16.2: a full disk", r.n, false)
	})
	r.free()
	same(t, "P16.2: after all these errors", r.n.Begin(api.State{Range: whole}), api.OK)
	r.silent("P16.2", func() {
		for _, s := range append(badStates(), api.State{Range: whole}) {
			same(t, "P16.2: born already, with "+text(s), r.n.Begin(s), api.ErrState)
		}
	})
	stands(t, "P16.2", r.n, api.State{Range: whole}, []api.Range{whole}, nil, 0)
}

// P16.2: the node falls within Begin, and is down for each Begin after that.
func TestBeginFalls(t *testing.T) {
	for k := 1; k <= 2; k++ {
		r := raw(t, disk.New(), 1)
		r.d.Arm(k)
		same(t, "P16.2", r.n.Begin(api.State{Range: whole}), api.ErrDown)
		zero(t, "P16.2", r.n, true)
		for _, s := range append(badStates(), api.State{Range: whole}) {
			same(t, "P16.2: down already", r.n.Begin(s), api.ErrDown)
		}
		r.d.Crash([]int{1000})
		same(t, "P16.2: down, though the disk is up", r.n.Begin(api.State{Range: whole}), api.ErrDown)
	}
}

// P16.2
func TestBegin(t *testing.T) {
	for _, s := range []api.State{
		{Range: whole},
		{Range: api.Range{ID: 12, Epoch: math.MaxInt, Lo: 0.25, Hi: 0.5}, Floor: at(3, 4, 63)},
		{Range: whole, Closed: at(9, 0, 5)},
		{Range: whole, Floor: at(3, 4, 5), Closed: at(2, 9, 9), Histories: many(3), Pending: []api.Pending{{Txn: t1, Stamp: at(1, 1, 1), Reads: []string{"a"}, Writes: puts(nan, "b")}}},
		{Range: whole, Histories: many(2000)},
	} {
		r := born(t, s)
		same(t, "P16.2: Born", r.n.Born(), true)
		stands(t, "P16.2", r.n, s, []api.Range{s.Range}, nil, 0)
		r.logs("P16.2", birth(s))
		same(t, "P16.2: the records", len(records(t, r.d)), 1)
		r.last("P16.2: the clock is above the floor alone", at(s.Floor.Wall, s.Floor.Logical, s.Range.ID))
		r.again()
		stands(t, "P16.8", r.n, s, []api.Range{s.Range}, nil, 0)
	}
}

// P16.2: what the node is born with counts in what comes then.
func TestBeginTakesOverTheState(t *testing.T) {
	r := born(t, api.State{Range: lower, Floor: at(5, 0, 0), Histories: []api.History{once(lowB, at(3, 0, 1), 3)}, Pending: []api.Pending{{Txn: t1, Stamp: at(4, 0, 1), Writes: puts(1, lowE)}}})
	m := read(t2, at(4, 0, 21), lowB)
	m.Epoch = 1
	r.steps("P16.2: a version", 0, 22, m, seen(at(5, 0, 1), api.Seen{Key: lowB, Value: number(3), Stamp: at(3, 0, 1)}))
	m.Keys = []string{lowE}
	r.steps("P16.2: a lock", 0, 22, m, notSeen(api.ErrLocked, at(5, 0, 1)))
	r.steps("P16.2: what is pending", 0, 22, prepare(t1, at(4, 0, 21), nil, nil), vote(api.OK, at(4, 0, 1)))
	r.ticks("P16.4", 0, ask(21, t1))
	same(t, "P16.4", r.n.State().Closed, at(5, 1, 1))
	r.steps("P16.3", 0, 22, abort(t1), done)
	r.steps("P16.3: it is done", 0, 22, prepare(t1, at(4, 0, 21), nil, nil))
}
