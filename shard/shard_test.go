package shard_test

import (
	"fmt"
	"math"
	"reflect"
	"slices"
	"testing"

	"headrace/api"
	"headrace/disk"
	"headrace/recs"
	"headrace/shard"
	"headrace/wal"
)

// Keys of either half of the places, in ascending order: b and e lie below 0.5, a and d don't.
const (
	lowB, lowE   = "b", "e"
	highA, highD = "a", "d"
)

var (
	t1, t2, t3 = txn(1), api.Txn{Coord: 2, Life: 1, Seq: 7}, txn(3)
	whole      = api.Range{ID: 1, Hi: 1}
	lower      = api.Range{ID: 1, Epoch: 1, Hi: 0.5}
	upper      = api.Range{ID: 2, Lo: 0.5, Hi: 1}
	nan        = math.Float64frombits(0x7FF8000000000000)
)

// frameSize is how many bytes a frame has more than its record.
const frameSize = 12

func txn(seq int) api.Txn { return api.Txn{Coord: 1, Life: 1, Seq: seq} }

// at is a stamp.
func at(wall, logical, node int) api.Stamp {
	return api.Stamp{Wall: wall, Logical: logical, Node: node}
}

func number(x float64) api.Value { return api.Value{Kind: 1, Num: x} }

// puts writes a number to each of the keys.
func puts(x float64, keys ...string) []api.Write {
	var l []api.Write
	for _, key := range keys {
		l = append(l, api.Write{Key: key, Value: number(x)})
	}
	return l
}

// unseen saw no version of the keys.
func unseen(keys ...string) []api.Seen {
	var l []api.Seen
	for _, key := range keys {
		l = append(l, api.Seen{Key: key})
	}
	return l
}

// once is a history of one version.
func once(key string, stamp api.Stamp, x float64) api.History {
	return api.History{Key: key, Versions: []api.Version{{Stamp: stamp, Value: number(x)}}}
}

// text tells all of a value, and takes nil and no elements for the same.
func text(x any) string { return fmt.Sprintf("%+v", x) }

// same holds a value to another one.
func same(t *testing.T, what string, got, want any) {
	t.Helper()
	if g, w := text(got), text(want); g != w {
		t.Fatalf("%s: %s, not %s", what, g, w)
	}
}

// rig is a node on a disk.
type rig struct {
	*testing.T
	d       *disk.Disk
	n       *shard.Node
	id      int
	segment int
}

// raw opens a node on a disk.
func raw(t *testing.T, d *disk.Disk, id int) *rig {
	t.Helper()
	r := &rig{T: t, d: d, id: id, segment: 4096}
	r.open()
	return r
}

// open opens the node on its disk, or once more.
func (r *rig) open() {
	r.Helper()
	n, e := shard.Open(r.d, r.id, r.segment)
	if e != api.OK || n == nil {
		r.Fatalf("P16.1: Open: error %d", e)
	}
	r.n = n
}

// again opens the node after a crash that keeps nothing but what is safe.
func (r *rig) again() {
	r.Helper()
	r.d.Crash(nil)
	r.open()
}

// born is the node of a range that is born with a state.
func born(t *testing.T, s api.State) *rig {
	t.Helper()
	r := raw(t, disk.New(), s.Range.ID)
	if e := r.n.Begin(s); e != api.OK {
		t.Fatalf("P16.2: Begin: error %d", e)
	}
	return r
}

// fresh is the node 1 with all places and nothing in it.
func fresh(t *testing.T) *rig {
	t.Helper()
	return born(t, api.State{Range: whole})
}

// written is a disk with a log that was written by hand.
func written(t *testing.T, l ...api.Rec) *disk.Disk {
	t.Helper()
	d := disk.New()
	book, _ := wal.Open(d, "log", 4096)
	for _, r := range l {
		if _, e := book.Append(encoded(t, r)); e != api.OK {
			t.Fatalf("P7.2: error %d", e)
		}
	}
	book.Sync()
	return d
}

func encoded(t *testing.T, r api.Rec) []byte {
	t.Helper()
	b, e := recs.Encode(r)
	if e != api.OK {
		t.Fatalf("P11.2: error %d of %+v", e, r)
	}
	return b
}

// records lists the log of a disk that is up.
func records(t *testing.T, d *disk.Disk) []api.Rec {
	t.Helper()
	book, e := wal.Open(d.Copy(), "log", 4096)
	if e != api.OK {
		t.Fatalf("P7.1: error %d", e)
	}
	var l []api.Rec
	for i := book.First(); i < book.Next(); i++ {
		b, _ := book.Read(i)
		r, e := recs.Decode(b)
		if e != api.OK {
			t.Fatalf("P11.3: error %d", e)
		}
		l = append(l, r)
	}
	return l
}

// logs holds the end of the log to these records, all of them safe.
func (r *rig) logs(what string, want ...api.Rec) {
	r.Helper()
	l := records(r.T, r.d)
	if len(l) < len(want) {
		r.Fatalf("%s: %d records", what, len(l))
	}
	same(r.T, what+": the log", l[len(l)-len(want):], want)
	for _, f := range r.d.Files() {
		if f.Safe != len(f.Data) {
			r.Fatalf("%s: %q is not synced", what, f.Name)
		}
	}
}

// silent holds a call to writing nothing to the disk.
func (r *rig) silent(what string, call func()) {
	r.Helper()
	before := r.d.Files()
	call()
	if !reflect.DeepEqual(r.d.Files(), before) {
		r.Fatalf("%s: the disk is written to", what)
	}
}

// fill leaves room for so many bytes on the disk, or takes what fills it away if there is none to be left.
func (r *rig) fill(room int) {
	r.Helper()
	r.d.Create("fill")
	r.d.Cut("fill", 0)
	if e := r.d.Append("fill", make([]byte, max(api.MaxDisk-r.d.Size()-room, 0))); e != api.OK {
		r.Fatalf("P6.2: error %d", e)
	}
	r.d.Sync("fill")
}

// free takes away what fills the disk.
func (r *rig) free() { r.d.Remove("fill") }

// sized is how many bytes the frame of a record has.
func (r *rig) sized(rec api.Rec) int {
	r.Helper()
	return len(encoded(r.T, rec)) + frameSize
}

// to makes a message whole that is sent to the node.
func (r *rig) to(from int, m api.Msg) api.Msg {
	m.From, m.To = from, r.id
	if m.Range == 0 {
		m.Range = r.id
	}
	return m
}

// steps holds a message to its answers, which need not name their nodes and range, nor the Txn of the message.
func (r *rig) steps(what string, phys, from int, m api.Msg, want ...api.Msg) {
	r.Helper()
	m = r.to(from, m)
	l, e := r.n.Step(phys, m)
	if e != api.OK {
		r.Fatalf("%s: error %d", what, e)
	}
	for i := range want {
		want[i].From, want[i].To, want[i].Range, want[i].Txn = r.id, from, m.Range, m.Txn
	}
	same(r.T, what, l, want)
}

// ticks holds a Tick to its messages, which need not name the node itself.
func (r *rig) ticks(what string, phys int, want ...api.Msg) {
	r.Helper()
	l, e := r.n.Tick(phys)
	if e != api.OK {
		r.Fatalf("%s: error %d", what, e)
	}
	for i := range want {
		want[i].From = r.id
	}
	same(r.T, what, l, want)
}

// last holds the clock to its last stamp, which an MRead of another epoch tells.
func (r *rig) last(what string, want api.Stamp) {
	r.Helper()
	m := r.to(21, api.Msg{Kind: api.MRead, Txn: t1, Epoch: math.MaxInt - 1, Keys: []string{"k"}})
	l, e := r.n.Step(0, m)
	if e != api.OK || len(l) != 1 || l[0].Code != api.ErrEpoch {
		r.Fatalf("%s: %+v, error %d", what, l, e)
	}
	same(r.T, what+": the last stamp", l[0].Stamp, want)
}

// pending lists what is pending.
func (r *rig) pending() []api.Txn {
	var l []api.Txn
	for _, p := range r.n.State().Pending {
		l = append(l, p.Txn)
	}
	return l
}

// Messages to a node, without their nodes and range.

func read(t api.Txn, stamp api.Stamp, keys ...string) api.Msg {
	return api.Msg{Kind: api.MRead, Txn: t, Stamp: stamp, Keys: keys}
}

func prepare(t api.Txn, stamp api.Stamp, seen []api.Seen, writes []api.Write) api.Msg {
	return api.Msg{Kind: api.MPrepare, Txn: t, Stamp: stamp, Seen: seen, Writes: writes, Parts: []int{1, 2, 5}}
}

func commit(t api.Txn, stamp api.Stamp) api.Msg {
	return api.Msg{Kind: api.MDecide, Txn: t, Commit: true, Stamp: stamp}
}

func abort(t api.Txn) api.Msg { return api.Msg{Kind: api.MDecide, Txn: t} }

func pull(n, most int, stamp api.Stamp) api.Msg {
	return api.Msg{Kind: api.MPull, N: n, Max: most, Stamp: stamp}
}

func took(id int) api.Msg { return api.Msg{Kind: api.MTook, Range: id} }

func give(s api.State) api.Msg { return api.Msg{Kind: api.MHand, State: s} }

// Answers of a node, without their nodes, range and transaction.

func vote(e api.Errno, stamp api.Stamp) api.Msg {
	return api.Msg{Kind: api.MVote, Code: e, Stamp: stamp}
}

func seen(stamp api.Stamp, l ...api.Seen) api.Msg {
	return api.Msg{Kind: api.MSeen, Stamp: stamp, Seen: l}
}

func notSeen(e api.Errno, stamp api.Stamp) api.Msg {
	return api.Msg{Kind: api.MSeen, Code: e, Stamp: stamp}
}

var done = api.Msg{Kind: api.MDone}

// ask is the question for a decision, and handing hands over a child.

func ask(coord int, t api.Txn) api.Msg {
	return api.Msg{Kind: api.MAsk, To: coord, Txn: t, Range: 1}
}

func handing(s api.State) api.Msg {
	return api.Msg{Kind: api.MHand, To: s.Range.ID, Range: s.Range.ID, State: s}
}

// The examples of the chapter.
func TestExamples(t *testing.T) {
	r := fresh(t)
	r.ticks("P16.4", 5)
	r.logs("P16.4", api.Rec{Kind: api.RBirth, State: api.State{Range: whole}}, api.Rec{Kind: api.RCeil, N: 21}, api.Rec{Kind: api.RClose, Stamp: at(5, 0, 1)})
	p := api.Msg{Kind: api.MPrepare, Txn: t1, Stamp: at(4, 0, 21), Writes: puts(7, "a"), Parts: []int{1}}
	m := read(t1, at(6, 0, 21), "a")
	r.steps("P16.3", 5, 21, p, vote(api.OK, at(5, 1, 1)))
	r.steps("P16.3", 5, 21, p, vote(api.OK, at(5, 1, 1)))
	r.ticks("P16.4", 5, ask(21, t1))
	r.steps("P16.3", 5, 21, m, notSeen(api.ErrLocked, at(6, 0, 1)))
	r.steps("P16.3", 5, 21, commit(t1, at(5, 1, 1)), done)
	r.steps("P16.3", 5, 21, m, seen(at(6, 0, 1), api.Seen{Key: "a", Value: number(7), Stamp: at(5, 1, 1)}))
	r.steps("P16.3", 5, 21, commit(t1, at(5, 1, 1)), done)
	m.Epoch = 3
	r.steps("P16.3", 5, 21, m, api.Msg{Kind: api.MSeen, Code: api.ErrEpoch, Stamp: at(6, 0, 1), Ranges: []api.Range{whole}})
	same(t, "P16.6", r.n.Split(5, 0.5, 2), api.OK)
	r.ticks("P16.4", 5, handing(api.State{Range: upper, Floor: at(22, 0, 0), Closed: at(6, 1, 1), Histories: []api.History{once("a", at(5, 1, 1), 7)}}))
}

// stands holds a node to all that it tells of itself.
func stands(t *testing.T, what string, n *shard.Node, s api.State, info []api.Range, hands []int, ceiling int) {
	t.Helper()
	same(t, what+": State", n.State(), s)
	same(t, what+": Info", n.Info(), info)
	same(t, what+": Hands", n.Hands(), hands)
	same(t, what+": Ceiling", n.Ceiling(), ceiling)
	same(t, what+": Born", n.Born(), s.Range.ID != 0)
	same(t, what+": Down", n.Down(), false)
}

// zero holds a node that is down or not born to telling nothing.
func zero(t *testing.T, what string, n *shard.Node, down bool) {
	t.Helper()
	same(t, what+": State", n.State(), api.State{})
	if n.Born() || n.Down() != down || n.Ceiling() != 0 || len(n.Info()) > 0 || len(n.Hands()) > 0 {
		t.Fatalf("%s: Born %t, Down %t, Ceiling %d, Info %v, Hands %v", what, n.Born(), n.Down(), n.Ceiling(), n.Info(), n.Hands())
	}
}

// P16.5: what a node tells of itself, step by step.
func TestState(t *testing.T) {
	r := raw(t, disk.New(), 1)
	zero(t, "P16.5: not born", r.n, false)
	s := api.State{Range: whole, Floor: at(2, 0, 0), Closed: at(3, 4, 5), Histories: []api.History{once(highA, at(1, 0, 1), 1), once(lowB, at(1, 0, 1), nan)}}
	later := api.Pending{Txn: t2, Stamp: at(2, 1, 1), Writes: puts(1, lowE)}
	sooner := api.Pending{Txn: t1, Stamp: at(2, 2, 1), Reads: []string{highD}}
	s.Pending = []api.Pending{later, sooner}
	same(t, "P16.2", r.n.Begin(s), api.OK)
	s.Pending = []api.Pending{sooner, later}
	stands(t, "P16.5: in the order of the Txns", r.n, s, []api.Range{whole}, nil, 0)
	same(t, "P16.6", r.n.Split(9, 0.5, 7), api.OK)
	s.Range, s.Histories = lower, s.Histories[1:]
	s.Pending = []api.Pending{{Txn: t1, Stamp: at(2, 2, 1)}, later}
	seven := api.Range{ID: 7, Lo: 0.5, Hi: 1}
	stands(t, "P16.5: split", r.n, s, []api.Range{lower, seven}, []int{7}, 25)
	same(t, "P16.6", r.n.Split(9, 0.25, 2), api.OK)
	s.Range, s.Histories = api.Range{ID: 1, Epoch: 2, Hi: 0.25}, nil
	info := []api.Range{s.Range, seven, {ID: 2, Lo: 0.25, Hi: 0.5}}
	stands(t, "P16.5: split again", r.n, s, info, []int{7, 2}, 25)
	r.steps("P16.3", 9, 7, took(7))
	stands(t, "P16.5: one is taken", r.n, s, info, []int{2}, 25)
	r.again()
	stands(t, "P16.8", r.n, s, info, []int{2}, 25)
	r.steps("P16.3", 9, 2, took(2))
	stands(t, "P16.5: both are taken", r.n, s, info, nil, 25)
	r.again()
	stands(t, "P16.8", r.n, s, info, nil, 25)
	if slices.ContainsFunc(r.d.List(), func(name string) bool { return name != "log.00000001" }) {
		t.Errorf("P16.1: the disk has %q", r.d.List())
	}
}
