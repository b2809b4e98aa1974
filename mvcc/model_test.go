package mvcc_test

import (
	"math/rand"
	"slices"
	"testing"

	"headrace/api"
	"headrace/datum"
	"headrace/hlc"
	"headrace/mvcc"
)

// made is a version of a key.
type made struct {
	key     string
	version api.Version
}

// plain is the chapter, word by word: versions and pending transactions in the order in which they came.
type plain struct {
	made    []made
	pending []api.Pending
	low     api.Stamp
}

// not tells whether a is not greater than b.
func not(a, b api.Stamp) bool { return hlc.Compare(a, b) <= 0 }

// newest returns the newest version of the key that is not greater than at.
func (m *plain) newest(key string, at api.Stamp) api.Seen {
	seen := api.Seen{Key: key}
	for _, v := range m.made {
		if v.key == key && not(v.version.Stamp, at) && !not(v.version.Stamp, seen.Stamp) {
			seen.Value, seen.Stamp = v.version.Value, v.version.Stamp
		}
	}
	return seen
}

// end is above all stamps.
func end() api.Stamp { return api.Stamp{Wall: 1<<48 + 1} }

func reads(p api.Pending, key string) bool { return slices.Contains(p.Reads, key) }
func writes(p api.Pending, key string) bool {
	return slices.ContainsFunc(p.Writes, func(w api.Write) bool { return w.Key == key })
}

func (m *plain) read(key string, at api.Stamp) (api.Seen, api.Errno) {
	if len(key) < 1 || len(key) > 24 {
		return api.Seen{}, api.ErrName
	}
	if !hlc.May(at) {
		return api.Seen{}, api.ErrStamp
	}
	for _, p := range m.pending {
		if writes(p, key) && not(p.Stamp, at) {
			return api.Seen{}, api.ErrLocked
		}
	}
	m.low = hlc.Later(m.low, at)
	return m.newest(key, at), api.OK
}

// clash tells whether p and a pending transaction don't go together.
func (m *plain) clash(p api.Pending) bool {
	for _, q := range m.pending {
		for _, key := range p.Reads {
			if writes(q, key) {
				return true
			}
		}
		for _, w := range p.Writes {
			if writes(q, w.Key) || reads(q, w.Key) {
				return true
			}
		}
	}
	return false
}

// at returns the index of a pending transaction, and -1 if it isn't pending.
func (m *plain) at(x api.Txn) int {
	return slices.IndexFunc(m.pending, func(p api.Pending) bool { return p.Txn == x })
}

func (m *plain) prepare(p api.Pending, seen []api.Seen) api.Errno {
	if e := mvcc.PendingMay(p); e != api.OK {
		return e
	}
	var keys []string
	for _, one := range seen {
		keys = append(keys, one.Key)
	}
	if !slices.Equal(keys, p.Reads) {
		return api.ErrForm
	}
	if m.at(p.Txn) >= 0 {
		return api.ErrTwice
	}
	if not(p.Stamp, m.low) {
		return api.ErrOld
	}
	if m.clash(p) {
		return api.ErrLocked
	}
	for _, one := range seen {
		if m.newest(one.Key, end()).Stamp != one.Stamp {
			return api.ErrStale
		}
	}
	for _, v := range m.made {
		if writes(p, v.key) && not(p.Stamp, v.version.Stamp) {
			return api.ErrOld
		}
	}
	m.pending = append(m.pending, p)
	return api.OK
}

func (m *plain) would(x api.Txn, commit bool, at api.Stamp) api.Errno {
	i := m.at(x)
	if i < 0 {
		return api.ErrNone
	}
	if commit && !hlc.May(at) {
		return api.ErrStamp
	}
	if commit && hlc.Compare(at, m.pending[i].Stamp) < 0 {
		return api.ErrOld
	}
	for _, v := range m.made {
		if commit && writes(m.pending[i], v.key) && v.version.Stamp == at {
			return api.ErrTwice
		}
	}
	return api.OK
}

func (m *plain) resolve(x api.Txn, commit bool, at api.Stamp) api.Errno {
	e := m.would(x, commit, at)
	if e != api.OK {
		return e
	}
	i := m.at(x)
	if commit {
		for _, w := range m.pending[i].Writes {
			m.made = append(m.made, made{w.Key, api.Version{Stamp: at, Value: w.Value}})
		}
	}
	m.pending = slices.Delete(m.pending, i, i+1)
	return api.OK
}

// keys lists the keys that have versions.
func (m *plain) keys() (l []string) {
	for _, v := range m.made {
		if !slices.Contains(l, v.key) {
			l = append(l, v.key)
		}
	}
	slices.Sort(l)
	return l
}

func (m *plain) histories() (l []api.History) {
	for _, key := range m.keys() {
		h := api.History{Key: key}
		for _, v := range m.made {
			if v.key == key {
				h.Versions = append(h.Versions, v.version)
			}
		}
		slices.SortFunc(h.Versions, func(a, b api.Version) int { return hlc.Compare(a.Stamp, b.Stamp) })
		l = append(l, h)
	}
	return l
}

func (m *plain) pairs(at api.Stamp) (l []api.Pair) {
	for _, key := range m.keys() {
		if v := m.newest(key, at).Value; v.Kind != 0 {
			l = append(l, api.Pair{Key: key, Value: v})
		}
	}
	return l
}

func (m *plain) sorted() []api.Pending {
	l := slices.Clone(m.pending)
	slices.SortFunc(l, func(a, b api.Pending) int {
		return slices.Compare([]int{a.Txn.Coord, a.Txn.Life, a.Txn.Seq}, []int{b.Txn.Coord, b.Txn.Life, b.Txn.Seq})
	})
	return l
}

// answer is what a Read told.
type answer struct {
	at   api.Stamp
	seen api.Seen
}

// row is a store with the chapter beside it, and what its Reads have told so far.
type row struct {
	t      *testing.T
	r      *rand.Rand
	s      *mvcc.Store
	m      *plain
	told   []answer
	counts map[string]int
}

// count notes that a call has ended so.
func (w *row) count(call string, e api.Errno) { w.counts[call+" "+text(e)]++ }

func one[T any](r *rand.Rand, l ...T) T { return l[r.Intn(len(l))] }

// now is a stamp about the time of the row, seldom one that is not valid.
func (w *row) now() api.Stamp {
	if w.r.Intn(40) == 0 {
		return one(w.r, append(badStamps(), api.Stamp{})...)
	}
	return api.Stamp{Wall: w.m.low.Wall + w.r.Intn(7) - 3, Logical: w.r.Intn(2), Node: w.r.Intn(3)}
}

func (w *row) key() string {
	if w.r.Intn(40) == 0 {
		return one(w.r, badKeys()...)
	}
	return one(w.r, "a", "b", "c", "d", "e", "f")
}

func (w *row) txn() api.Txn {
	if w.r.Intn(40) == 0 {
		return one(w.r, badTxns()...)
	}
	return api.Txn{Coord: 1 + w.r.Intn(2), Life: 1 + w.r.Intn(2), Seq: 1 + w.r.Intn(2)}
}

// some returns a few of the keys, mostly in order and once each.
func (w *row) some() []string {
	var l []string
	for range w.r.Intn(3) {
		l = append(l, w.key())
	}
	if w.r.Intn(20) > 0 {
		slices.Sort(l)
		l = slices.Compact(l)
	}
	return l
}

func (w *row) read() {
	key, at := w.key(), w.now()
	seen, e := w.s.Read(key, at)
	wanted, f := w.m.read(key, at)
	w.count("read", f)
	if text(seen) != text(wanted) || e != f {
		w.t.Fatalf("P10.2: Read(%q, %v) is %v, %d, not %v, %d", key, at, seen, e, wanted, f)
	}
	if e == api.OK {
		w.told = append(w.told, answer{at, seen})
	}
}

func (w *row) prepare() {
	p := api.Pending{Txn: w.txn(), Stamp: w.now(), Reads: w.some()}
	for _, key := range w.some() {
		p.Writes = append(p.Writes, api.Write{Key: key, Value: one(w.r, goodValues()...)})
	}
	if len(p.Writes) > 0 && w.r.Intn(30) == 0 {
		p.Writes[0].Value = one(w.r, badValues()...)
	}
	seen := seenOf(w.s, p)
	if len(seen) > 0 && w.r.Intn(4) == 0 {
		one(w.r, []func(){
			func() { seen[0].Stamp = w.now() }, func() { seen[0].Key = w.key() }, func() { seen = seen[1:] }, func() { seen = append(seen, seen[0]) }, func() { seen[0].Value = one(w.r, badValues()...) },
		}...)()
	}
	before := text(w.s.Histories())
	e, f := w.s.Prepare(p, seen), w.m.prepare(p, seen)
	w.count("prepare", f)
	if e != f {
		w.t.Fatalf("P10.3: Prepare(%v, %v) is %d, not %d", p, seen, e, f)
	}
	if text(w.s.Histories()) != before {
		w.t.Fatalf("P10.8: Prepare(%v, %v) changes %s", p, seen, before)
	}
}

func (w *row) resolve() {
	x, commit, at := w.txn(), w.r.Intn(3) > 0, w.now()
	if len(w.m.pending) > 0 && w.r.Intn(3) > 0 {
		p := one(w.r, w.m.pending...)
		x = p.Txn
		at = one(w.r, at, p.Stamp, api.Stamp{Wall: p.Stamp.Wall + 1})
	}
	before, p := text(w.s.Histories()), api.Pending{}
	if i := w.m.at(x); i >= 0 {
		p = w.m.pending[i]
	}
	told := w.s.Would(x, commit, at)
	e, f := w.s.Resolve(x, commit, at), w.m.resolve(x, commit, at)
	w.count("resolve", f)
	if e != f || told != f {
		w.t.Fatalf("P10.4: Would and Resolve(%v, %t, %v) are %d and %d, not %d", x, commit, at, told, e, f)
	}
	if e != api.OK || !commit {
		if text(w.s.Histories()) != before {
			w.t.Fatalf("P10.8: Resolve(%v, %t, %v) with %d changes %s", x, commit, at, e, before)
		}
		return
	}
	for _, one := range p.Writes {
		if got := w.s.Newest(one.Key); text(got) != text(api.Seen{Key: one.Key, Value: one.Value, Stamp: at}) {
			w.t.Fatalf("P10.8: Resolve(%v, %t, %v) of %v leads to %v", x, commit, at, p, got)
		}
	}
}

// reload goes on with a store that is loaded from what there is.
func (w *row) reload() {
	s, e := mvcc.Load(w.s.Histories(), w.s.Pending())
	if e != api.OK || s.Low() != (api.Stamp{}) {
		w.t.Fatalf("P10.9: Load of what there is: %d, with %s", e, whole(w.s))
	}
	w.s, w.m.low, w.told = s, api.Stamp{}, nil
	// The rows go on at the time at which they were.
	low := hlc.Later(api.Stamp{Wall: 5}, w.m.newest(one(w.r, "a", "b", "c"), end()).Stamp)
	if _, f := w.m.read("z", low); f == api.OK {
		_, e = w.s.Read("z", low)
	}
	if e != api.OK {
		w.t.Fatalf("P10.2: Read(%v) is %d", low, e)
	}
}

// hold holds all that the store tells of itself to the chapter.
func (w *row) hold() {
	if got, wanted := text(w.s.Histories()), text(w.m.histories()); got != wanted {
		w.t.Fatalf("P10.5: Histories is %s, not %s", got, wanted)
	}
	if got, wanted := text(w.s.Pending()), text(w.m.sorted()); got != wanted {
		w.t.Fatalf("P10.5: Pending is %s, not %s", got, wanted)
	}
	at := w.now()
	if got, wanted := text(w.s.At(at)), text(w.m.pairs(at)); got != wanted {
		w.t.Fatalf("P10.5: At(%v) is %s, not %s", at, got, wanted)
	}
	key := w.key()
	if got, wanted := text(w.s.Newest(key)), text(w.m.newest(key, end())); got != wanted {
		w.t.Fatalf("P10.2: Newest(%q) is %s, not %s", key, got, wanted)
	}
	x := w.txn()
	p, has := w.s.Has(x)
	i := w.m.at(x)
	if has != (i >= 0) || has && text(p) != text(w.m.pending[i]) || !has && text(p) != text(api.Pending{}) {
		w.t.Fatalf("P10.5: Has(%v) is %v, %t", x, p, has)
	}
	if w.s.Low() != w.m.low {
		w.t.Fatalf("P10.5: Low is %v, not %v", w.s.Low(), w.m.low)
	}
}

// again asks once more what Reads have told.
func (w *row) again() {
	for _, a := range w.told {
		seen, e := w.s.Read(a.seen.Key, a.at)
		if e != api.OK || text(seen) != text(a.seen) {
			w.t.Fatalf("P10.7: Read(%q, %v) told %v, and now %v, %d", a.seen.Key, a.at, a.seen, seen, e)
		}
	}
	if w.s.Low() != w.m.low {
		w.t.Fatalf("P10.7: Low is %v, not %v", w.s.Low(), w.m.low)
	}
}

// P10.2 to P10.5, P10.7 to P10.9

func TestRowsOfCalls(t *testing.T) {
	r := rand.New(rand.NewSource(101))
	counts := map[string]int{}
	for range 400 {
		w := &row{t, r, mvcc.New(), &plain{low: api.Stamp{Wall: 5}}, nil, counts}
		// Nothing is below Low at first, so that a row needs no great stamps.
		if _, e := w.s.Read("z", w.m.low); e != api.OK {
			t.Fatalf("P10.2: Read is %d", e)
		}
		for range 150 {
			switch n := r.Intn(200); {
			case n < 40:
				w.read()
			case n < 120:
				w.prepare()
			case n < 199:
				w.resolve()
			default:
				w.reload()
			}
			w.hold()
			w.again()
		}
	}
	for call, errors := range map[string][]api.Errno{
		"read": {api.OK, api.ErrName, api.ErrStamp, api.ErrLocked}, "prepare": {api.OK, api.ErrForm, api.ErrStamp, api.ErrTwice, api.ErrOld, api.ErrLocked, api.ErrStale}, "resolve": {api.OK, api.ErrNone, api.ErrStamp, api.ErrOld},
	} {
		for _, e := range errors {
			if n := counts[call+" "+text(e)]; n < 40 {
				t.Errorf("only %d calls of %s end with %d", n, call, e)
			}
		}
	}
}

// loadPlain is P10.1, word by word.
func loadPlain(l []api.History, pending []api.Pending) (*plain, api.Errno) {
	m := &plain{}
	for i, h := range l {
		if len(h.Key) < 1 || len(h.Key) > 24 || i > 0 && h.Key <= l[i-1].Key || len(h.Versions) == 0 {
			return nil, api.ErrForm
		}
		for k, v := range h.Versions {
			if !hlc.May(v.Stamp) || k == 0 && v.Stamp == (api.Stamp{}) || k > 0 && not(v.Stamp, h.Versions[k-1].Stamp) || !datum.May(v.Value) {
				return nil, api.ErrForm
			}
			m.made = append(m.made, made{h.Key, v})
		}
	}
	for _, p := range pending {
		var seen []api.Seen
		for _, key := range p.Reads {
			seen = append(seen, m.newest(key, end()))
		}
		if e := m.prepare(p, seen); e != api.OK {
			return nil, e
		}
	}
	return m, api.OK
}

// wildHistories is a list of histories of any sort, most of them right.
func (w *row) wildHistories() []api.History {
	var l []api.History
	for _, key := range w.some() {
		h := api.History{Key: key}
		for wall := range 1 + w.r.Intn(4) {
			h.Versions = append(h.Versions, api.Version{Stamp: api.Stamp{Wall: wall, Node: 1}, Value: one(w.r, goodValues()...)})
		}
		if w.r.Intn(20) == 0 {
			h.Versions = h.Versions[:0]
		}
		if len(h.Versions) > 0 && w.r.Intn(20) == 0 {
			h.Versions[w.r.Intn(len(h.Versions))].Value = one(w.r, badValues()...)
		}
		if len(h.Versions) > 0 && w.r.Intn(20) == 0 {
			h.Versions[w.r.Intn(len(h.Versions))].Stamp = one(w.r, append(badStamps(), api.Stamp{}, moment(0), moment(2))...)
		}
		l = append(l, h)
	}
	return l
}

// P10.1, P10.9

func TestRandomLoads(t *testing.T) {
	r := rand.New(rand.NewSource(102))
	counts := map[api.Errno]int{}
	for range 30000 {
		w := &row{t: t, r: r, m: &plain{low: api.Stamp{Wall: 3}}}
		l := w.wildHistories()
		var pending []api.Pending
		for range r.Intn(4) {
			p := api.Pending{Txn: w.txn(), Stamp: w.now(), Reads: w.some()}
			for _, key := range w.some() {
				p.Writes = append(p.Writes, api.Write{Key: key, Value: one(r, goodValues()...)})
			}
			pending = append(pending, p)
		}
		s, e := mvcc.Load(l, pending)
		m, wanted := loadPlain(l, pending)
		counts[wanted]++
		if e != wanted || (s == nil) != (m == nil) {
			t.Fatalf("P10.1: Load(%v, %v) is %d, not %d", l, pending, e, wanted)
		}
		if s == nil {
			continue
		}
		if text(s.Histories()) != text(m.histories()) || text(s.Pending()) != text(m.sorted()) {
			t.Fatalf("P10.1: Load(%v, %v) has %s", l, pending, whole(s))
		}
		if other := load(t, s.Histories(), s.Pending()...); whole(other) != whole(s) {
			t.Fatalf("P10.9: Load of %s is %s", whole(s), whole(other))
		}
	}
	for _, e := range []api.Errno{api.OK, api.ErrForm, api.ErrStamp, api.ErrTwice, api.ErrLocked, api.ErrOld} {
		if counts[e] < 100 {
			t.Errorf("only %d loads end with %d", counts[e], e)
		}
	}
}

// P10.8

func TestAllOfATransactionIsThereAtOnce(t *testing.T) {
	s := mvcc.New()
	p := prepared(1, 5, "", "abcdefghijklmnop")
	holdPrepare(t, s, p, nil, api.OK)
	if len(s.Histories()) != 0 || len(s.At(moment(9))) != 0 || s.Newest("a") != (api.Seen{Key: "a"}) {
		t.Errorf("P10.8: of what is prepared are visible: %v", s.Histories())
	}
	for _, w := range p.Writes {
		holdRead(t, s, w.Key, moment(4), api.Seen{Key: w.Key}, moment(4))
		holdNoRead(t, s, w.Key, moment(5), api.ErrLocked)
	}
	holdResolve(t, s, numbered(1), true, moment(7), api.OK)
	if before, after := s.At(moment(6)), s.At(moment(7)); len(before) != 0 || len(after) != 16 {
		t.Errorf("P10.8: before the commit's stamp %v, from it on %v", before, after)
	}
}

// Many versions and many transactions take no longer each than few do.
func TestManyKeysAndTransactions(t *testing.T) {
	s := mvcc.New()
	for i := range 100000 {
		p := api.Pending{Txn: numbered(i + 1), Stamp: moment(i + 1), Reads: []string{"r"}, Writes: []api.Write{{Key: "key " + text(i), Value: number(1)}}}
		if e := s.Prepare(p, []api.Seen{{Key: "r"}}); e != api.OK {
			t.Fatalf("P10.3: Prepare of %d is %d", i, e)
		}
	}
	holdPrepare(t, s, prepared(200000, 200000, "", "r"), nil, api.ErrLocked)
	for i := range 100000 {
		if e := s.Resolve(numbered(i+1), i%2 == 0, moment(i+1)); e != api.OK {
			t.Fatalf("P10.4: Resolve of %d is %d", i, e)
		}
	}
	if len(s.Pending()) != 0 || len(s.Histories()) != 50000 || len(s.At(moment(1001))) != 501 {
		t.Errorf("P10.5: %d pending, %d histories, %d pairs", len(s.Pending()), len(s.Histories()), len(s.At(moment(1001))))
	}
	for i := range 100000 {
		wall := 200000 + i
		if e := s.Prepare(prepared(1, wall, "r", "r"), []api.Seen{s.Newest("r")}); e != api.OK {
			t.Fatalf("P10.3: Prepare at %d is %d", wall, e)
		}
		if e := s.Resolve(numbered(1), true, moment(wall)); e != api.OK {
			t.Fatalf("P10.4: Resolve at %d is %d", wall, e)
		}
	}
	holdRead(t, s, "r", moment(234567), look("r", 234567), moment(234567))
	holdRead(t, s, "r", moment(199999), look("r", 0), moment(234567))
}
