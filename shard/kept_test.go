package shard

import (
	"testing"

	"headrace/api"
	"headrace/disk"
)

// What is tested here can only be seen from within.

// node is the node 1 of a new disk, born with all places and two keys, of which a lies in the upper half.
func node(t *testing.T) *Node {
	t.Helper()
	n, e := Open(disk.New(), 1, 4096)
	if e != api.OK {
		t.Fatalf("P16.1: error %d", e)
	}
	version := []api.Version{{Stamp: api.Stamp{Wall: 1}}}
	s := api.State{Range: api.Range{ID: 1, Hi: 1}, Histories: []api.History{{Key: "a", Versions: version}, {Key: "b", Versions: version}}}
	if e := n.Begin(s); e != api.OK {
		t.Fatalf("P16.2: error %d", e)
	}
	return n
}

// P16.6: the store's Low stays, whichever keys of the left half are locked.
func TestLowStays(t *testing.T) {
	low := api.Stamp{Wall: 9, Logical: 3, Node: 21}
	for _, locked := range [][]string{nil, {"0"}, {"0", "1", "2", "3", "4", "5", "6", "7", "8", "9"}} {
		n := node(t)
		m := api.Msg{Kind: api.MPrepare, From: 21, To: 1, Txn: api.Txn{Coord: 1, Life: 1, Seq: 1}, Range: 1, Parts: []int{1}}
		for _, key := range locked {
			m.Writes = append(m.Writes, api.Write{Key: key})
		}
		n.Step(5, m)
		n.Step(5, api.Msg{Kind: api.MRead, From: 21, To: 1, Txn: m.Txn, Range: 1, Stamp: low, Keys: []string{"a"}})
		for i, point := range []float64{0.9999, 0.9998} {
			if e := n.Split(5, point, 2+i); e != api.OK || n.store.Low() != low {
				t.Errorf("P16.6: error %d, Low is %v with %q locked", e, n.store.Low(), locked)
			}
		}
		if l := n.State().Pending; len(l) != 1 || len(l[0].Writes) != len(locked) {
			t.Errorf("P16.6: %q are not locked in the left half: %v", locked, l)
		}
	}
	n := node(t)
	if e := n.Split(5, 0.5, 2); e != api.OK || n.store.Low() != (api.Stamp{}) {
		t.Errorf("P16.6: error %d, Low is %v and nothing was read", e, n.store.Low())
	}
}

// Of a kid that was taken, of a key in another half and of a node that fell, nothing is kept that no call tells.
func TestNothingIsKeptThatIsNotTold(t *testing.T) {
	n := node(t)
	n.Split(5, 0.5, 2)
	if l := n.store.Histories(); len(l) != 1 || l[0].Key != "b" {
		t.Errorf("P16.6: the store has %v", l)
	}
	if n.kids[0].store == nil {
		t.Error("P16.6: the kid has no store")
	}
	n.Step(5, api.Msg{Kind: api.MTook, From: 2, To: 1, Range: 2})
	if n.kids[0] != (kid{share: share{span: api.Range{ID: 2, Lo: 0.5, Hi: 1}}, taken: true}) {
		t.Errorf("P16.3: of a kid that was taken there is %+v", n.kids[0])
	}
	d := disk.New()
	n, _ = Open(d, 1, 4096)
	d.Arm(1)
	n.Begin(api.State{Range: api.Range{ID: 1, Hi: 1}})
	if n.book != nil || n.clock != nil || n.store != nil || n.done != nil || !n.down {
		t.Errorf("P16: of a node that fell there is %+v", n)
	}
}

// A panic that is not a fall is nobody's to catch.
func TestOtherPanicsGoOn(t *testing.T) {
	n := node(t)
	defer func() {
		if caught := recover(); caught != "other" || n.down {
			t.Errorf("P16: caught %v, down %t", caught, n.down)
		}
	}()
	n.fell("other")
}
