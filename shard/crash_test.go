package shard_test

import (
	"testing"

	"headrace/api"
	"headrace/disk"
	"headrace/shard"
)

// deed is a call that writes records, and what it leaves in the log, in the order of the writes.
type deed struct {
	what string
	do   func(n *shard.Node) ([]api.Msg, api.Errno)
	logs []api.Rec
}

// deeds lists a call of each kind that writes, for the node of busy.
func deeds() []deed {
	r := rig{id: 1}
	step := func(m api.Msg) func(n *shard.Node) ([]api.Msg, api.Errno) {
		return func(n *shard.Node) ([]api.Msg, api.Errno) { return n.Step(40, r.to(21, m)) }
	}
	p := prepare(t2, at(30, 0, 21), unseen("c"), puts(2, lowE))
	p.Epoch = 1
	m := read(t2, at(30, 0, 21), "c")
	m.Epoch = 1
	return []deed{
		{"MRead", step(m), []api.Rec{ceil(46)}},
		{"MPrepare", step(p), []api.Rec{ceil(46), preparing(t2, at(40, 0, 1), []string{"c"}, puts(2, lowE))}},
		{"MPrepare that reaches twice", func(n *shard.Node) ([]api.Msg, api.Errno) { return n.Step(70, r.to(21, p)) }, []api.Rec{ceil(46), ceil(86), preparing(t2, at(70, 0, 1), []string{"c"}, puts(2, lowE))}},
		{"MDecide", step(abort(t1)), []api.Rec{aborting(t1)}},
		{"MDecide with Commit", step(commit(t1, at(60, 0, 5))), []api.Rec{committing(t1, at(60, 0, 5))}},
		{"MPull", step(pull(1, 8, at(30, 0, 21))), []api.Rec{ceil(46)}},
		{"MTook", step(took(2)), []api.Rec{taking(2)}},
		{"Tick", func(n *shard.Node) ([]api.Msg, api.Errno) { return n.Tick(40) }, []api.Rec{ceil(56), closing(at(40, 0, 1))}},
		{"Split", func(n *shard.Node) ([]api.Msg, api.Errno) { return nil, n.Split(40, 0.25, 3) }, []api.Rec{ceil(56), split(0.25, 3, at(40, 0, 1))}},
	}
}

// fallen holds a node to being down for every call.
func fallen(t *testing.T, what string, n *shard.Node) {
	t.Helper()
	zero(t, what, n, true)
	r := rig{id: 1}
	for _, d := range deeds() {
		l, e := d.do(n)
		if e != api.ErrDown || len(l) > 0 {
			t.Fatalf("%s: %s of a node that is down: %+v, error %d", what, d.what, l, e)
		}
	}
	for _, m := range []api.Msg{{}, {Kind: api.MHello, From: 31, To: 1}, r.to(2, give(api.State{Range: whole}))} {
		l, e := n.Step(0, m)
		if e != api.ErrDown || len(l) > 0 {
			t.Fatalf("%s: Step of a node that is down: %+v, error %d", what, l, e)
		}
	}
	same(t, what+": Begin", n.Begin(api.State{Range: whole}), api.ErrDown)
	same(t, what+": Split that has an error anyway", n.Split(0, nan, 0), api.ErrDown)
	zero(t, what, n, true)
}

// loose returns the picks by which a crash keeps all that is not safe.
func loose(d *disk.Disk) []int {
	var picks []int
	for _, f := range d.Files() {
		if f.Safe < len(f.Data) {
			picks = append(picks, len(f.Data)-f.Safe)
		}
	}
	return picks
}

// P16: the records of each call, each with an Append and a Sync.
func TestWrites(t *testing.T) {
	for _, d := range deeds() {
		r := busy(t)
		before, writes := records(t, r.d), r.d.Writes()
		_, e := d.do(r.n)
		same(t, "P16: "+d.what, e, api.OK)
		same(t, "P16: "+d.what+": the log", records(t, r.d), append(before, d.logs...))
		same(t, "P16: "+d.what+": the writes", r.d.Writes()-writes, 2*len(d.logs))
	}
}

// P16: each call falls by each of its writes. After a crash the log has its records before the one that was being
// written, and that one if the crash kept it.
func TestFalls(t *testing.T) {
	for _, d := range deeds() {
		for k := range 2 * len(d.logs) {
			for kept := range 2 {
				r := busy(t)
				before := records(t, r.d)
				r.d.Arm(k + 1)
				l, e := d.do(r.n)
				if e != api.ErrDown || len(l) > 0 {
					t.Fatalf("P16: %s falls: %+v, error %d", d.what, l, e)
				}
				fallen(t, "P16: "+d.what, r.n)
				picks := loose(r.d)
				r.d.Crash(picks[:min(len(picks), kept)])
				fallen(t, "P16: the disk is up again, and the node is not", r.n)
				same(t, "P16: "+d.what+": the log", records(t, r.d), append(before, d.logs[:k/2+kept]...))
				r.open()
			}
		}
	}
}

// P16.3: an MHand by whose birth the node falls has no answer.
func TestHandFalls(t *testing.T) {
	for k := 1; k <= 2; k++ {
		r := raw(t, disk.New(), 1)
		r.d.Arm(k)
		l, e := r.n.Step(0, r.to(2, give(api.State{Range: whole})))
		if e != api.ErrDown || len(l) > 0 {
			t.Fatalf("P16.3: %+v, error %d", l, e)
		}
		fallen(t, "P16.3", r.n)
		r.again()
		zero(t, "P16.8: nothing was safe", r.n, false)
	}
}

// P16: a node falls by its own writes alone.
func TestADiskThatIsDown(t *testing.T) {
	r := busy(t)
	r.d.Create("x")
	r.d.Arm(1)
	r.d.Create("y")
	m := read(t2, at(6, 0, 21), "c")
	m.Epoch = 1
	r.steps("P16.3: nothing is to be written", 5, 21, m, seen(at(6, 0, 1), unseen("c")...))
	r.steps("P16.3: nothing is to be written", 5, 21, abort(t2), done)
	same(t, "P16.5", r.n.Born(), true)
	_, e := r.n.Tick(6)
	same(t, "P16.4", e, api.ErrDown)
	fallen(t, "P16.4", r.n)
}

// P16: errors of the log other than ErrDown don't make the node fall.
func TestNoRoomForASegment(t *testing.T) {
	r := busy(t)
	r.segment = 64
	r.open()
	for i := range api.MaxFiles {
		r.d.Create(string(rune('0' + i)))
	}
	r.silent("P16", func() {
		r.steps("P16.3: an RCeil", 5, 21, prepare(t2, at(90, 0, 21), nil, nil), func() api.Msg {
			a := vote(api.ErrEpoch, at(21, 0, 1))
			a.Ranges = []api.Range{lower, upper}
			return a
		}())
		m := prepare(t2, at(90, 0, 21), nil, nil)
		m.Epoch = 1
		r.steps("P16.3: an RCeil", 5, 21, m, vote(api.ErrMany, at(21, 0, 1)))
		r.steps("P16.3: an RDecide", 5, 21, abort(t1))
		r.splits("P16.6: an RCeil", 50, 0.25, 3, api.ErrMany)
		r.ticks("P16.4: an RCeil", 50, handing(kid(at(21, 0, 0))), ask(21, t1))
	})
	same(t, "P16", r.n.Down(), false)
	r.d.Remove("0")
	r.steps("P16.3", 5, 21, abort(t1), done)
}
