package shard_test

import (
	"slices"

	"headrace/api"
	"headrace/disk"
	"headrace/hand"
	"headrace/hlc"
	"headrace/msgs"
	"headrace/mvcc"
	"headrace/place"
	"headrace/recs"
	"headrace/wal"
)

// plain is the chapter, word by word, on a disk of its own. Nothing is passed up by a panic: what logs something asks
// whether the node is down.
type plain struct {
	d       *disk.Disk
	id      int
	book    *wal.Log
	down    bool
	born    bool
	span    api.Range
	floor   api.Stamp
	closed  api.Stamp
	store   *mvcc.Store
	last    api.Stamp
	ceiling int
	kids    []api.State
	taken   []int
	done    []api.Txn
}

// openPlain is P16.1.
func openPlain(d *disk.Disk, id, segment int) (*plain, api.Errno) {
	if id < 1 || id > 12 {
		return nil, api.ErrRange
	}
	book, e := wal.Open(d, "log", segment)
	if e != api.OK {
		return nil, e
	}
	p := &plain{d: d, id: id, book: book}
	var heard []api.Stamp
	for i := book.First(); i < book.Next(); i++ {
		b, _ := book.Read(i)
		r, e := recs.Decode(b)
		if e != api.OK || !p.apply(r) {
			return nil, api.ErrCorrupt
		}
		if r.Kind == api.RDecide && r.Commit {
			heard = append(heard, r.Stamp)
		}
	}
	if p.born {
		floor := api.Stamp{Wall: p.ceiling + 1}
		if p.ceiling == 1<<48 {
			floor = api.Stamp{Wall: 1 << 48, Logical: 65535}
		}
		p.clock(hlc.Later(p.floor, floor))
		for _, s := range heard {
			p.observe(s)
		}
	}
	return p, api.OK
}

func (p *plain) apply(r api.Rec) bool {
	if !p.born {
		if r.Kind != api.RBirth || r.State.Range.ID != p.id {
			return false
		}
		p.take(r.State)
		return true
	}
	switch r.Kind {
	case api.RCeil:
		if r.N > p.ceiling {
			p.ceiling = r.N
		}
	case api.RPrepare:
		var seen []api.Seen
		for _, key := range r.Reads {
			seen = append(seen, p.store.Newest(key))
		}
		return p.store.Prepare(api.Pending{Txn: r.Txn, Stamp: r.Stamp, Reads: r.Reads, Writes: r.Writes}, seen) == api.OK
	case api.RDecide:
		p.done = append(p.done, r.Txn)
		return p.store.Resolve(r.Txn, r.Commit, r.Stamp) == api.OK
	case api.RClose:
		p.closed = hlc.Later(p.closed, r.Stamp)
	case api.RSplit:
		l, k, e := hand.Divide(p.state(), r.Point, r.N, r.Stamp, api.Stamp{Wall: p.ceiling + 1})
		if p.ceiling == 1<<48 || p.kid(r.N) >= 0 || e != api.OK {
			return false
		}
		p.halve(l, k)
	case api.RTook:
		if p.kid(r.N) < 0 || slices.Contains(p.taken, r.N) {
			return false
		}
		p.taken = append(p.taken, r.N)
	default:
		return false
	}
	return true
}

func (p *plain) take(s api.State) {
	p.born, p.span, p.floor, p.closed = true, s.Range, s.Floor, s.Closed
	p.store, _ = mvcc.Load(s.Histories, s.Pending)
	p.clock(s.Floor)
}

func (p *plain) halve(l, k api.State) {
	p.span = l.Range
	p.store, _ = mvcc.Load(l.Histories, l.Pending)
	p.kids = append(p.kids, k)
}

// kid is the index of a kid, or -1.
func (p *plain) kid(id int) int {
	return slices.IndexFunc(p.kids, func(s api.State) bool { return s.Range.ID == id })
}

// The clock is that of chapter 8.

func (p *plain) clock(floor api.Stamp) {
	p.last = api.Stamp{Wall: floor.Wall, Logical: floor.Logical, Node: p.id}
}

func (p *plain) observe(s api.Stamp) {
	if s.Wall > p.last.Wall || s.Wall == p.last.Wall && s.Logical > p.last.Logical {
		p.clock(s)
	}
}

func (p *plain) log(r api.Rec) api.Errno {
	b, e := recs.Encode(r)
	if e == api.OK {
		_, e = p.book.Append(b)
	}
	if e == api.OK {
		e = p.book.Sync()
	}
	if e == api.ErrDown {
		p.down = true
	}
	return e
}

func (p *plain) reach(w int) api.Errno {
	if p.ceiling >= w {
		return api.OK
	}
	n := w + 16
	if n > 1<<48 {
		n = 1 << 48
	}
	e := p.log(api.Rec{Kind: api.RCeil, N: n})
	if e == api.OK {
		p.ceiling = n
	}
	return e
}

func (p *plain) hear(s api.Stamp) api.Errno {
	e := p.reach(s.Wall)
	if e == api.OK {
		p.observe(s)
	}
	return e
}

func (p *plain) stamp(phys int) (api.Stamp, api.Errno) {
	s := api.Stamp{Wall: phys, Node: p.id}
	switch {
	case phys > 1<<48:
		return api.Stamp{}, api.ErrWall
	case phys > p.last.Wall:
	case p.last.Logical == 65535:
		return api.Stamp{}, api.ErrLogical
	default:
		s = p.last
		s.Logical++
	}
	if e := p.reach(s.Wall); e != api.OK {
		return api.Stamp{}, e
	}
	p.last = s
	return s, api.OK
}

// begin is P16.2.
func (p *plain) begin(s api.State) api.Errno {
	if p.down {
		return api.ErrDown
	}
	if p.born {
		return api.ErrState
	}
	if !recs.StateMay(s) || s.Range.ID != p.id {
		return api.ErrForm
	}
	e := p.log(api.Rec{Kind: api.RBirth, State: s})
	if e == api.OK {
		p.take(s)
	}
	return e
}

// step is P16.3.
func (p *plain) step(phys int, m api.Msg) ([]api.Msg, api.Errno) {
	if p.down {
		return nil, api.ErrDown
	}
	if msgs.May(m) != api.OK || m.To != p.id || m.Range != p.id && m.Kind != api.MTook || !p.born && m.Kind != api.MHand {
		return nil, api.OK
	}
	a := api.Msg{From: p.id, To: m.From, Range: m.Range, Txn: m.Txn}
	answered := false
	switch m.Kind {
	case api.MRead:
		answered = p.read(m, &a)
	case api.MPrepare:
		answered = p.prepare(phys, m, &a)
	case api.MDecide:
		answered = p.decide(m, &a)
	case api.MPull:
		answered = p.pull(m, &a)
	case api.MTook:
		if p.kid(m.Range) >= 0 && !slices.Contains(p.taken, m.Range) && p.log(api.Rec{Kind: api.RTook, N: m.Range}) == api.OK {
			p.taken = append(p.taken, m.Range)
		}
	case api.MHand:
		a.Kind = api.MTook
		answered = p.born || p.begin(m.State) == api.OK
	}
	if p.down {
		return nil, api.ErrDown
	}
	if !answered {
		return nil, api.OK
	}
	return []api.Msg{a}, api.OK
}

// outside tells whether a key doesn't lie in the range.
func (p *plain) outside(keys ...string) bool {
	for _, key := range keys {
		if x := place.Of(key); x < p.span.Lo || x >= p.span.Hi {
			return true
		}
	}
	return false
}

func (p *plain) read(m api.Msg, a *api.Msg) bool {
	a.Kind = api.MSeen
	if m.Epoch != p.span.Epoch {
		a.Code, a.Ranges = api.ErrEpoch, p.info()
	} else if a.Code = p.hear(m.Stamp); a.Code == api.OK && p.outside(m.Keys...) {
		a.Code = api.ErrRange
	}
	var l []api.Seen
	for _, key := range m.Keys {
		if a.Code == api.OK {
			var s api.Seen
			s, a.Code = p.store.Read(key, m.Stamp)
			l = append(l, s)
		}
	}
	if a.Code == api.OK {
		a.Seen = l
	}
	a.Stamp = p.last
	return true
}

func (p *plain) prepare(phys int, m api.Msg, a *api.Msg) bool {
	a.Kind = api.MVote
	if was, has := p.store.Has(m.Txn); has {
		a.Stamp = was.Stamp
		return true
	}
	if slices.Contains(p.done, m.Txn) {
		return false
	}
	x := api.Pending{Txn: m.Txn, Writes: m.Writes}
	keys := []string{}
	for _, s := range m.Seen {
		x.Reads = append(x.Reads, s.Key)
		keys = append(keys, s.Key)
	}
	for _, w := range m.Writes {
		keys = append(keys, w.Key)
	}
	if m.Epoch != p.span.Epoch {
		a.Code, a.Ranges = api.ErrEpoch, p.info()
	}
	if a.Code == api.OK {
		a.Code = p.hear(m.Stamp)
	}
	if a.Code == api.OK && p.outside(keys...) {
		a.Code = api.ErrRange
	}
	if a.Code == api.OK {
		x.Stamp, a.Code = p.stamp(phys)
	}
	if a.Code == api.OK {
		a.Code = p.store.Prepare(x, m.Seen)
	}
	if a.Code == api.OK {
		a.Code = p.log(api.Rec{Kind: api.RPrepare, Txn: x.Txn, Stamp: x.Stamp, Reads: x.Reads, Writes: x.Writes, Parts: m.Parts})
		if a.Code != api.OK {
			p.store.Resolve(m.Txn, false, api.Stamp{})
		}
	}
	a.Stamp = p.last
	if a.Code == api.OK {
		a.Stamp = x.Stamp
	}
	return true
}

func (p *plain) decide(m api.Msg, a *api.Msg) bool {
	a.Kind = api.MDone
	if _, has := p.store.Has(m.Txn); !has {
		return true
	}
	if p.store.Would(m.Txn, m.Commit, m.Stamp) != api.OK || p.log(api.Rec{Kind: api.RDecide, Txn: m.Txn, Commit: m.Commit, Stamp: m.Stamp}) != api.OK {
		return false
	}
	p.store.Resolve(m.Txn, m.Commit, m.Stamp)
	p.done = append(p.done, m.Txn)
	if m.Commit {
		p.observe(m.Stamp)
	}
	return true
}

func (p *plain) pull(m api.Msg, a *api.Msg) bool {
	a.Kind, a.N = api.MBatch, m.N
	if p.hear(m.Stamp) != api.OK {
		return false
	}
	l, e := p.book.From(m.N, m.Max)
	for _, b := range l {
		r, _ := recs.Decode(b)
		a.Recs = append(a.Recs, r)
	}
	return e == api.OK
}

// tick is P16.4.
func (p *plain) tick(phys int) ([]api.Msg, api.Errno) {
	if p.down {
		return nil, api.ErrDown
	}
	if !p.born {
		return nil, api.OK
	}
	s, e := p.stamp(phys)
	if e == api.OK && p.log(api.Rec{Kind: api.RClose, Stamp: s}) == api.OK {
		p.closed = s
	}
	if p.down {
		return nil, api.ErrDown
	}
	var l []api.Msg
	for _, id := range p.hands() {
		l = append(l, api.Msg{Kind: api.MHand, From: p.id, To: id, Range: id, State: p.kids[p.kid(id)]})
	}
	for _, x := range p.store.Pending() {
		l = append(l, api.Msg{Kind: api.MAsk, From: p.id, To: 20 + x.Txn.Coord, Txn: x.Txn, Range: p.id})
	}
	return l, api.OK
}

// split is P16.6.
func (p *plain) split(phys int, point float64, child int) api.Errno {
	if p.down {
		return api.ErrDown
	}
	if !p.born {
		return api.ErrState
	}
	if _, _, e := place.Split(p.span, point, child); e != api.OK {
		return e
	}
	if p.kid(child) >= 0 {
		return api.ErrTwice
	}
	s, e := p.stamp(phys)
	if e != api.OK {
		return e
	}
	if p.ceiling == 1<<48 {
		return api.ErrWall
	}
	l, k, e := hand.Divide(p.state(), point, child, s, api.Stamp{Wall: p.ceiling + 1})
	if e != api.OK {
		return e
	}
	if _, e := recs.Encode(api.Rec{Kind: api.RBirth, State: k}); e != api.OK {
		return e
	}
	if e := p.log(api.Rec{Kind: api.RSplit, Point: point, N: child, Stamp: s}); e != api.OK {
		return e
	}
	p.halve(l, k)
	return api.OK
}

// What P16.5 tells, of a node that is up.

func (p *plain) state() api.State {
	return api.State{Range: p.span, Floor: p.floor, Closed: p.closed, Histories: p.store.Histories(), Pending: p.store.Pending()}
}

func (p *plain) info() []api.Range {
	l := []api.Range{p.span}
	for _, k := range p.kids {
		l = append(l, k.Range)
	}
	return l
}

func (p *plain) hands() []int {
	var l []int
	for _, k := range p.kids {
		if !slices.Contains(p.taken, k.Range.ID) {
			l = append(l, k.Range.ID)
		}
	}
	return l
}
