package shard_test

import (
	"bytes"
	"math"
	"math/rand"
	"reflect"
	"slices"
	"testing"

	"headrace/api"
	"headrace/disk"
	"headrace/place"
	"headrace/recs"
	"headrace/shard"
)

// twin is a node with the chapter beside it, and with a witness of what the node tells.
type twin struct {
	*testing.T
	r       *rand.Rand
	d       *disk.Disk
	n       *shard.Node
	p       *plain
	w       *witness
	id      int
	segment int
	// now is about the time of the row of calls.
	now int
}

func one[E any](r *rand.Rand, l ...E) E { return l[r.Intn(len(l))] }

// newTwin opens both on new disks.
func newTwin(t *testing.T, r *rand.Rand) *twin {
	x := &twin{T: t, r: r, d: disk.New(), id: 1 + r.Intn(3), segment: one(r, 64, 300, 4096, api.MaxRecord), w: newWitness(t)}
	x.p = &plain{d: disk.New()}
	x.now = one(r, 0, 0, 5, 1<<40, api.MaxWall-100, api.MaxWall-15)
	x.open()
	return x
}

// open opens both.
func (x *twin) open() {
	x.Helper()
	p, want := openPlain(x.p.d, x.id, x.segment)
	n, e := shard.Open(x.d, x.id, x.segment)
	same(x.T, "P16.1: Open", e, want)
	if e == api.ErrMany {
		// The disk is full of other files.
		x.d.Remove("0")
		x.p.d.Remove("0")
		x.open()
		return
	}
	if e != api.OK {
		x.Fatalf("P16.1: Open: error %d", e)
	}
	x.n, x.p = n, p
	x.w.opened(n)
}

// isAlike tells whether two disks have the same, but for the great file that fills them.
func isAlike(a, b *disk.Disk) bool {
	names := a.List()
	if !slices.Contains(names, "fill") {
		return reflect.DeepEqual(a.Files(), b.Files())
	}
	for _, name := range names {
		if name != "fill" {
			got, _ := a.Read(name)
			want, e := b.Read(name)
			if e != api.OK || !bytes.Equal(got, want) {
				return false
			}
		}
	}
	return a.Size() == b.Size()
}

// alike holds the node to what the chapter tells of it, and the disk to the disk.
func (x *twin) alike(what string) {
	x.Helper()
	if !isAlike(x.d, x.p.d) || x.d.Writes() != x.p.d.Writes() || x.d.Down() != x.p.d.Down() {
		x.Fatalf("%s: the disk is another: %d writes, not %d", what, x.d.Writes(), x.p.d.Writes())
	}
	if x.p.down || !x.p.born {
		zero(x.T, what, x.n, x.p.down)
		return
	}
	stands(x.T, what, x.n, x.p.state(), x.p.info(), x.p.hands(), x.p.ceiling)
}

// both does the same to both disks.
func (x *twin) both(do func(d *disk.Disk)) {
	do(x.d)
	do(x.p.d)
}

// phys is a physical time.
func (x *twin) phys() int {
	if x.r.Intn(100) == 0 {
		return one(x.r, -1, 0, math.MinInt, api.MaxWall+1, math.MaxInt)
	}
	x.now += one(x.r, 0, 0, 0, 1, 1, 2, 9)
	return min(x.now, api.MaxWall+1) - x.r.Intn(4)
}

// stamp is a valid stamp.
func (x *twin) stamp() api.Stamp {
	wall := min(max(x.now+x.r.Intn(24)-12, 0), api.MaxWall)
	s := api.Stamp{Wall: wall, Logical: x.r.Intn(3), Node: one(x.r, 0, 1, 2, 21, 63)}
	if x.r.Intn(200) == 0 {
		s.Logical = api.MaxLogical
	}
	return s
}

func (x *twin) txn() api.Txn {
	return api.Txn{Coord: 1 + x.r.Intn(2), Life: 1, Seq: 1 + x.r.Intn(9)}
}

func (x *twin) value() api.Value {
	return one(x.r, api.Value{}, number(float64(x.r.Intn(9))), number(nan), number(math.Copysign(0, -1)), number(math.Inf(-1)), api.Value{Kind: api.Text, Text: "x"})
}

// keys lists some keys in ascending order, most of them in the range.
func (x *twin) keys(in api.Range, most int) []string {
	var l []string
	for range x.r.Intn(most + 1) {
		key := string(rune('a' + x.r.Intn(26)))
		if place.In(in, place.Of(key)) || x.r.Intn(60) == 0 {
			l = append(l, key)
		}
	}
	slices.Sort(l)
	return slices.Compact(l)
}

func (x *twin) writes(in api.Range, most int) []api.Write {
	var l []api.Write
	for _, key := range x.keys(in, most) {
		l = append(l, api.Write{Key: key, Value: x.value()})
	}
	return l
}

// state is a state that may be valid, and mostly is.
func (x *twin) state() api.State {
	span := one(x.r, api.Range{Hi: 1}, api.Range{Hi: 1}, api.Range{Lo: 0.25, Hi: 1, Epoch: 2}, api.Range{Hi: 0.75}, api.Range{})
	span.ID = one(x.r, x.id, x.id, x.id, x.id, 1, 2)
	s := api.State{Range: span, Floor: x.stamp(), Closed: x.stamp()}
	for _, key := range x.keys(span, 8) {
		s.Histories = append(s.Histories, api.History{Key: key, Versions: []api.Version{{Stamp: at(1, x.r.Intn(3), 1), Value: x.value()}, {Stamp: at(2, 0, 1), Value: x.value()}}})
	}
	for range x.r.Intn(4) {
		p := api.Pending{Txn: x.txn(), Stamp: at(3+x.r.Intn(2), 0, 1), Reads: x.keys(span, 3), Writes: x.writes(span, 2)}
		l := append(slices.Clone(s.Pending), p)
		if recs.StateMay(api.State{Range: span, Pending: l}) {
			s.Pending = l
		}
	}
	return s
}

// pendingTxn is one that is pending, if there is one, and most of the time.
func (x *twin) pendingTxn() (api.Txn, api.Stamp) {
	if l := x.n.State().Pending; len(l) > 0 && x.r.Intn(6) > 0 {
		p := one(x.r, l...)
		s := p.Stamp
		s.Wall = min(s.Wall+one(x.r, 0, 0, 1, 5, 25), api.MaxWall)
		s.Node = one(x.r, 0, s.Node, 5, 63)
		return p.Txn, s
	}
	return x.txn(), x.stamp()
}

// prepare is an MPrepare of what could be prepared, mostly.
func (x *twin) prepare(m api.Msg) api.Msg {
	m.Kind, m.Writes, m.Parts = api.MPrepare, x.writes(x.p.span, 3), []int{1, 2, 3}
	for _, key := range x.keys(x.p.span, 3) {
		s := api.Seen{Key: key}
		if x.p.store != nil && x.r.Intn(9) > 0 {
			s = x.p.store.Newest(key)
		}
		m.Seen = append(m.Seen, s)
	}
	return m
}

// message is a message, mostly one that the node minds.
func (x *twin) message() api.Msg {
	m := api.Msg{From: one(x.r, 21, 22, 31, 2), To: x.id, Range: x.id, Txn: x.txn(), Stamp: x.stamp(), Epoch: x.p.span.Epoch}
	if x.r.Intn(20) == 0 {
		m.Epoch++
	}
	switch k := x.r.Intn(100); {
	case k < 25:
		m.Kind, m.Keys = api.MRead, x.keys(x.p.span, 6)
	case k < 55:
		m = x.prepare(m)
	case k < 75:
		m.Kind, m.Commit, m.Epoch = api.MDecide, x.r.Intn(3) > 0, 0
		m.Txn, m.Stamp = x.pendingTxn()
		if !m.Commit {
			m.Stamp = api.Stamp{}
		}
	case k < 83:
		m = api.Msg{Kind: api.MPull, From: m.From, To: m.To, Range: m.Range, N: 1 + x.r.Intn(40), Max: x.r.Intn(9), Stamp: m.Stamp}
	case k < 91:
		m = api.Msg{Kind: api.MTook, From: m.From, To: m.To, Range: 1 + x.r.Intn(12)}
	case k < 94:
		s := x.state()
		m = api.Msg{Kind: api.MHand, From: m.From, To: m.To, Range: s.Range.ID, State: s}
	default:
		m = api.Msg{Kind: x.r.Intn(16), From: m.From, To: m.To, Range: m.Range, Txn: m.Txn, Stamp: one(x.r, m.Stamp, api.Stamp{})}
	}
	switch x.r.Intn(60) {
	case 0:
		m.To = one(x.r, 1, 2, 3, 21, 0)
	case 1:
		m.Range = x.r.Intn(14)
	case 2:
		m.Max = -1
	}
	return m
}

// call makes a call of both.
func (x *twin) call() {
	x.Helper()
	switch k := x.r.Intn(100); {
	case k < 70:
		m, phys := x.message(), x.phys()
		want, we := x.p.step(phys, m)
		x.w.before(x.n, m)
		got, e := x.n.Step(phys, m)
		same(x.T, "P16.3: Step of "+text(m), []any{got, e}, []any{want, we})
		x.w.stepped(m, got, e)
	case k < 90:
		phys := x.phys()
		want, we := x.p.tick(phys)
		closed := x.n.State().Closed
		got, e := x.n.Tick(phys)
		same(x.T, "P16.4: Tick", []any{got, e}, []any{want, we})
		x.w.ticked(closed, x.n)
	case k < 96:
		point, child, phys := one(x.r, 0.5, 0.25, 0.125, 0.3, 0.75, 0.9, x.r.Float64(), nan), x.r.Intn(14), x.phys()
		want := x.p.split(phys, point, child)
		same(x.T, "P16.6: Split", x.n.Split(phys, point, child), want)
	default:
		s := x.state()
		want := x.p.begin(s)
		same(x.T, "P16.2: Begin", x.n.Begin(s), want)
	}
}

// harm does something to the disks.
func (x *twin) harm() {
	switch x.r.Intn(6) {
	case 0:
		x.both(func(d *disk.Disk) { d.Remove("fill") })
	case 1:
		room := x.r.Intn(80)
		x.both(func(d *disk.Disk) {
			d.Create("fill")
			d.Cut("fill", 0)
			d.Append("fill", make([]byte, max(api.MaxDisk-d.Size()-room, 0)))
			d.Sync("fill")
		})
	case 2:
		x.both(func(d *disk.Disk) { d.Arm(0) })
	default:
		n := 1 + x.r.Intn(20)
		x.both(func(d *disk.Disk) { d.Arm(n) })
	}
}

// crash crashes both, and opens them again, if need be in more than one go.
func (x *twin) crash() {
	x.Helper()
	picks := []int{x.r.Intn(90), x.r.Intn(90)}
	x.both(func(d *disk.Disk) {
		d.Crash(picks)
		d.Remove("fill")
	})
	x.open()
}

// P16.1 to P16.6, and P16.8 to P16.10: random rows of calls, of crashes and of disks that are full.
func TestRandomRows(t *testing.T) {
	for seed := range 300 {
		x := newTwin(t, rand.New(rand.NewSource(int64(seed))))
		full := seed%4 == 0
		for range 150 {
			x.call()
			x.alike("P16")
			if full && x.r.Intn(12) == 0 || x.r.Intn(60) == 0 {
				x.harm()
			}
			if x.p.down && x.r.Intn(3) == 0 || x.r.Intn(40) == 0 {
				x.crash()
				x.alike("P16.8")
			}
		}
		x.crash()
		x.w.reads(records(t, x.d))
	}
}
