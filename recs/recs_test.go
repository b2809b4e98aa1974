package recs_test

import (
	"math"
	"slices"
	"strings"
	"testing"

	"headrace/api"
	"headrace/place"
	"headrace/recs"
)

var (
	minusZero = math.Copysign(0, -1)
	oneNaN    = math.Float64frombits(0x7FF8000000000000)
	otherNaN  = math.Float64frombits(0x7FF8000000000001)
	least     = math.SmallestNonzeroFloat64
	underOne  = math.Nextafter(1, 0)
)

// moment is the stamp {wall, 0, 1}.
func moment(wall int) api.Stamp { return api.Stamp{Wall: wall, Node: 1} }

// numbered is a transaction of the first coordinator's first life.
func numbered(seq int) api.Txn { return api.Txn{Coord: 1, Life: 1, Seq: seq} }

func number(x float64) api.Value { return api.Value{Kind: 1, Num: x} }
func words(s string) api.Value   { return api.Value{Kind: 2, Text: s} }

// goodStamps lists valid stamps behind the zero Stamp, in ascending order.
func goodStamps() []api.Stamp {
	return []api.Stamp{{Node: 1}, {Node: 63}, {Logical: 1}, {Logical: 65535, Node: 63}, {Wall: 1}, {Wall: 5, Node: 1}, {Wall: 1 << 48}, {Wall: 1 << 48, Logical: 65535, Node: 63}}
}

// badStamps lists stamps that are not valid.
func badStamps() []api.Stamp {
	return []api.Stamp{
		{Wall: -1, Logical: 1, Node: 1}, {Wall: 1, Logical: -1, Node: 1}, {Wall: 1, Logical: 1, Node: -1}, {Wall: 1<<48 + 1}, {Wall: 1, Logical: 65536}, {Wall: 1, Node: 64},
		{Wall: math.MinInt}, {Wall: math.MaxInt}, {Wall: 5, Logical: math.MaxInt}, {Wall: 5, Node: math.MinInt},
	}
}

// goodValues lists valid values; the first one is None.
func goodValues() []api.Value {
	return []api.Value{
		{}, number(0), number(minusZero), number(oneNaN), number(math.Inf(1)), number(math.Inf(-1)), number(-2.5), number(least), number(math.MaxFloat64),
		words(""), words("x"), words("\x00\xff\""), words(strings.Repeat("t", 63)), words(strings.Repeat("t", 64)),
	}
}

// badValues lists values that are not valid.
func badValues() []api.Value {
	return []api.Value{
		{Num: 1}, {Num: minusZero}, {Text: "x"}, number(otherNaN), number(-oneNaN), {Kind: 1, Text: "x"}, {Kind: 2, Num: 1}, {Kind: 2, Num: minusZero},
		words(strings.Repeat("t", 65)), {Kind: 3}, {Kind: -1}, {Kind: math.MaxInt},
	}
}

// goodTxns lists valid numbers of transactions.
func goodTxns() []api.Txn {
	return []api.Txn{{Coord: 1, Life: 1, Seq: 1}, {Coord: 1, Life: 2, Seq: 3}, {Coord: 1, Life: math.MaxInt, Seq: 1}, {Coord: 2, Life: 1, Seq: math.MaxInt}}
}

// badTxns lists numbers that no transaction has.
func badTxns() []api.Txn {
	return []api.Txn{
		{}, {Life: 1, Seq: 1}, {Coord: 1, Seq: 1}, {Coord: 1, Life: 1}, {Coord: 3, Life: 1, Seq: 1}, {Coord: -1, Life: 1, Seq: 1}, {Coord: 1, Life: -1, Seq: 1}, {Coord: 1, Life: 1, Seq: -1},
		{Coord: math.MaxInt, Life: 1, Seq: 1}, {Coord: 1, Life: math.MinInt, Seq: 1},
	}
}

// letters lists n keys in ascending order.
func letters(n int) []string {
	var l []string
	for i := range n {
		l = append(l, string(rune('A'+i)))
	}
	return l
}

// goodReads and the lists behind it have what a record may have; the bad ones are not lists of keys, or have too many.
func goodReads() [][]string {
	return [][]string{nil, {}, {"a"}, {"\x00", "\x00\x00", " ", "é", "\xff"}, {"a", "aa", "b"}, {strings.Repeat("k", 24)}, letters(15), letters(16)}
}

func badReads() [][]string {
	return [][]string{{""}, {"", "a"}, {"a", ""}, {"a", "a"}, {"b", "a"}, {"a", "c", "b"}, {strings.Repeat("k", 25)}, {"a", strings.Repeat("k", 25), "z"}, letters(17), letters(26)}
}

func goodParts() [][]int {
	return [][]int{{1}, {12}, {1, 12}, {2, 3, 5}, {1, 2, 3, 4, 5, 6, 7, 8, 9, 10, 11, 12}}
}

func badParts() [][]int {
	return [][]int{nil, {}, {0}, {13}, {-1}, {1, 1}, {2, 1}, {1, 3, 2}, {0, 1}, {12, 13}, {1, 2, 2}, {math.MinInt}, {1, math.MaxInt}, {1, 2, 3, 4, 5, 6, 7, 8, 9, 10, 11, 12, 12}, {1, 2, 3, 4, 5, 6, 7, 8, 9, 10, 11, 12, 13}}
}

// writing is a write of the value to each of the keys.
func writing(keys []string, v api.Value) []api.Write {
	var l []api.Write
	for _, key := range keys {
		l = append(l, api.Write{Key: key, Value: v})
	}
	return l
}

func goodWrites() [][]api.Write {
	l := [][]api.Write{nil, {}}
	for _, keys := range goodReads()[2:] {
		l = append(l, writing(keys, number(1)))
	}
	for _, v := range goodValues() {
		l = append(l, writing([]string{"a"}, v), append(writing([]string{"a", "b"}, words("x")), api.Write{Key: "c", Value: v}))
	}
	return l
}

func badWrites() [][]api.Write {
	var l [][]api.Write
	for _, keys := range badReads() {
		l = append(l, writing(keys, number(1)))
	}
	for _, v := range badValues() {
		l = append(l, writing([]string{"a"}, v), append(writing([]string{"a", "b"}, words("x")), api.Write{Key: "c", Value: v}))
	}
	return l
}

// pairs makes pairs of writes.
func pairs(l []api.Write) []api.Pair {
	var out []api.Pair
	for _, w := range l {
		out = append(out, api.Pair(w))
	}
	return out
}

// goodPairs has lists of more pairs than a transaction may write, but none of them is None.
func goodPairs() [][]api.Pair {
	l := [][]api.Pair{nil, {}, pairs(writing(letters(17), number(1))), pairs(writing(letters(26), words("")))}
	for _, keys := range goodReads()[2:] {
		l = append(l, pairs(writing(keys, number(1))))
	}
	for _, v := range goodValues()[1:] {
		l = append(l, pairs(writing([]string{"a"}, v)), pairs(append(writing([]string{"a", "b"}, words("x")), api.Write{Key: "c", Value: v})))
	}
	return l
}

func badPairs() [][]api.Pair {
	l := [][]api.Pair{{{Key: "a"}}, {{Key: "a", Value: number(1)}, {Key: "b"}}, {{Key: "a"}, {Key: "b", Value: number(1)}}}
	for _, keys := range badReads()[:8] {
		l = append(l, pairs(writing(keys, number(1))))
	}
	for _, v := range badValues() {
		l = append(l, pairs(writing([]string{"a"}, v)), pairs(append(writing([]string{"a", "b"}, words("x")), api.Write{Key: "c", Value: v})))
	}
	return l
}

// lowKeys are keys whose places are below a half, highKeys are others; both in ascending order.
func lowKeys() (l []string) {
	for c := 'a'; c <= 'z'; c++ {
		if place.Of(string(c)) < 0.5 {
			l = append(l, string(c))
		}
	}
	return l
}

func highKeys() (l []string) {
	for c := 'a'; c <= 'z'; c++ {
		if place.Of(string(c)) >= 0.5 {
			l = append(l, string(c))
		}
	}
	return l
}

// lower is the range of the places below a half.
func lower() api.Range { return api.Range{ID: 3, Epoch: 2, Hi: 0.5} }

// fullState has something in each of its fields.
func fullState() api.State {
	l := lowKeys()
	return api.State{
		Range: lower(), Floor: api.Stamp{Wall: 7, Logical: 2, Node: 3}, Closed: api.Stamp{Wall: 4, Logical: 1, Node: 2},
		Histories: []api.History{
			{Key: l[0], Versions: []api.Version{{Stamp: moment(1), Value: words("x")}, {Stamp: moment(6)}}},
			{Key: l[2], Versions: []api.Version{{Stamp: moment(3), Value: number(minusZero)}}},
		},
		Pending: []api.Pending{
			{Txn: numbered(2), Stamp: moment(9), Reads: []string{l[0], l[1]}, Writes: []api.Write{{Key: l[0], Value: number(oneNaN)}, {Key: l[3]}}},
			{Txn: numbered(1), Stamp: moment(8), Reads: []string{l[1]}},
		},
	}
}

// changed is the full state with one thing changed.
func changed(change func(s *api.State)) api.State {
	s := fullState()
	change(&s)
	return s
}

// goodStates lists states that a range may have.
func goodStates() []api.State {
	l := []api.State{fullState(), {Range: api.Range{ID: 1, Hi: 1}}, {Range: api.Range{ID: 12, Epoch: math.MaxInt, Lo: underOne, Hi: 1}}, {Range: api.Range{ID: 1, Hi: least}}}
	for _, at := range append(goodStamps(), api.Stamp{}) {
		l = append(l, changed(func(s *api.State) { s.Floor = at }), changed(func(s *api.State) { s.Closed = at }))
	}
	for _, v := range goodValues() {
		l = append(l, changed(func(s *api.State) { s.Histories[0].Versions[1].Value = v }), changed(func(s *api.State) { s.Pending[0].Writes[1].Value = v }))
	}
	l = append(l, changed(func(s *api.State) { s.Histories = nil }), changed(func(s *api.State) { s.Pending = nil }), changed(func(s *api.State) { s.Pending[1].Stamp = moment(1) }))
	// A range has the place with which it begins.
	key := lowKeys()[0]
	edge := []api.History{{Key: key, Versions: []api.Version{{Stamp: moment(1)}}}}
	l = append(l, api.State{Range: api.Range{ID: 1, Lo: place.Of(key), Hi: 1}, Histories: edge}, api.State{Range: api.Range{ID: 1, Hi: math.Nextafter(place.Of(key), 1)}, Histories: edge})
	return l
}

// badStates lists states that no range may have.
func badStates() []api.State {
	l := []api.State{{}}
	for _, r := range []api.Range{
		{}, {ID: 0, Hi: 0.5}, {ID: 13, Hi: 0.5}, {ID: 3, Epoch: -1, Hi: 0.5}, {ID: 3, Lo: minusZero, Hi: 0.5}, {ID: 3, Hi: minusZero}, {ID: 3, Hi: otherNaN}, {ID: 3, Lo: oneNaN, Hi: 0.5}, {ID: 3, Lo: 0.5}, {ID: 3, Hi: math.Inf(1)}, {ID: 3, Lo: -1, Hi: 0.5}, {ID: 3, Hi: 1.5},
	} {
		l = append(l, api.State{Range: r}, changed(func(s *api.State) { s.Range = r }))
	}
	for _, at := range badStamps() {
		l = append(l, changed(func(s *api.State) { s.Floor = at }), changed(func(s *api.State) { s.Closed = at }), changed(func(s *api.State) { s.Histories[0].Versions[0].Stamp = at }), changed(func(s *api.State) { s.Pending[1].Stamp = at }))
	}
	for _, v := range badValues() {
		l = append(l, changed(func(s *api.State) { s.Histories[1].Versions[0].Value = v }), changed(func(s *api.State) { s.Pending[0].Writes[1].Value = v }))
	}
	for _, x := range badTxns() {
		l = append(l, changed(func(s *api.State) { s.Pending[1].Txn = x }))
	}
	low, high := lowKeys(), highKeys()
	for _, key := range append([]string{"", strings.Repeat("k", 25)}, high...) {
		l = append(l, changed(func(s *api.State) { s.Histories[0].Key = key }), changed(func(s *api.State) { s.Histories[1].Key = key }), changed(func(s *api.State) { s.Pending[0].Reads = []string{key} }), changed(func(s *api.State) { s.Pending[1].Reads[0] = key }),
			changed(func(s *api.State) { s.Pending[1].Writes = []api.Write{{Key: key}} }), changed(func(s *api.State) { s.Pending[0].Writes[1].Key = key }), changed(func(s *api.State) { s.Pending[0].Writes[0].Key = key }))
	}
	l = append(l,
		changed(func(s *api.State) { s.Histories[1].Versions = nil }), changed(func(s *api.State) { s.Histories[1].Key = low[0] }), changed(func(s *api.State) { slices.Reverse(s.Histories) }), changed(func(s *api.State) { slices.Reverse(s.Histories[0].Versions) }), changed(func(s *api.State) { s.Histories[0].Versions[0].Stamp = api.Stamp{} }),
		changed(func(s *api.State) { s.Pending[1].Txn = numbered(2) }), changed(func(s *api.State) { s.Pending[1].Reads[0] = low[3] }), changed(func(s *api.State) { s.Pending[1].Writes = []api.Write{{Key: low[1]}} }), changed(func(s *api.State) { s.Pending[0].Stamp = moment(6) }), changed(func(s *api.State) { s.Pending[1].Stamp = api.Stamp{} }), changed(func(s *api.State) { slices.Reverse(s.Pending[0].Reads) }), changed(func(s *api.State) { slices.Reverse(s.Pending[0].Writes) }),
	)
	// A range has not the place with which it ends.
	key := low[0]
	edge := []api.History{{Key: key, Versions: []api.Version{{Stamp: moment(1)}}}}
	return append(l, api.State{Range: api.Range{ID: 1, Hi: place.Of(key)}, Histories: edge}, api.State{Range: api.Range{ID: 1, Lo: math.Nextafter(place.Of(key), 1), Hi: 1}, Histories: edge})
}

// almostZero lists states with one thing that is not zero, none of which a range may have.
func almostZero() []api.State {
	return []api.State{
		{Range: api.Range{ID: 1}}, {Range: api.Range{Epoch: 1}}, {Range: api.Range{Lo: 0.5}}, {Range: api.Range{Hi: 0.5}}, {Range: api.Range{Lo: minusZero}}, {Range: api.Range{Hi: minusZero}}, {Range: api.Range{Lo: oneNaN}}, {Range: api.Range{Hi: oneNaN}},
		{Floor: api.Stamp{Wall: 1}}, {Floor: api.Stamp{Logical: -1}}, {Floor: api.Stamp{Node: 1}}, {Closed: api.Stamp{Wall: 1}}, {Closed: api.Stamp{Logical: 1}}, {Closed: api.Stamp{Node: 1}}, {Histories: []api.History{{}}}, {Pending: []api.Pending{{}}},
	}
}

// full is a valid record of the kind.
func full(kind int) api.Rec {
	t, at := api.Txn{Coord: 2, Life: 3, Seq: 4}, api.Stamp{Wall: 5, Logical: 6, Node: 7}
	writes := []api.Write{{Key: "a", Value: number(oneNaN)}, {Key: "b"}, {Key: "c", Value: words("xyz")}}
	switch kind {
	case api.RBirth:
		return api.Rec{Kind: kind, State: fullState()}
	case api.RPrepare:
		return api.Rec{Kind: kind, Txn: t, Stamp: at, Reads: []string{"a", "x"}, Writes: writes, Parts: []int{2, 12}}
	case api.RDecide:
		return api.Rec{Kind: kind, Txn: t, Commit: true, Stamp: at}
	case api.RClose:
		return api.Rec{Kind: kind, Stamp: at}
	case api.RSplit:
		return api.Rec{Kind: kind, Point: 0.25, N: 9, Stamp: at}
	case api.RCommit:
		return api.Rec{Kind: kind, Txn: t, Stamp: at, Parts: []int{2, 3, 12}}
	case api.REnd:
		return api.Rec{Kind: kind, Txn: t}
	case api.RApply:
		return api.Rec{Kind: kind, Prev: api.Stamp{Wall: 5, Logical: 6, Node: 6}, Stamp: at, Txn: t, Writes: writes}
	case api.RBase:
		return api.Rec{Kind: kind, Stamp: at, Pairs: []api.Pair{{Key: "a", Value: number(-1)}, {Key: "b", Value: words("xyz")}}}
	default:
		return api.Rec{Kind: kind, N: 9}
	}
}

// others lists numbers that no kind has.
func others() []int { return []int{0, -1, 13, 14, 99, -12, 256 + 1, math.MaxInt, math.MinInt} }

// change sets a field of a record.
type change func(r *api.Rec)

// changes lists what each field may be set to, right or wrong, field by field.
func changes() [][]change {
	var l [][]change
	var one []change
	for _, x := range append(goodTxns(), badTxns()...) {
		one = append(one, func(r *api.Rec) { r.Txn = x })
	}
	l, one = append(l, one), nil
	stamps := append(append(goodStamps(), api.Stamp{}, moment(4), moment(6)), badStamps()...)
	for _, x := range stamps {
		one = append(one, func(r *api.Rec) { r.Stamp = x })
	}
	l, one = append(l, one), nil
	for _, x := range stamps {
		one = append(one, func(r *api.Rec) { r.Prev = x })
	}
	l, one = append(l, one, []change{func(r *api.Rec) { r.Commit = true }, func(r *api.Rec) { r.Commit = false }}), nil
	for _, x := range []int{math.MinInt, -1, 0, 1, 2, 11, 12, 13, 1<<48 - 1, 1 << 48, 1<<48 + 1, math.MaxInt} {
		one = append(one, func(r *api.Rec) { r.N = x })
	}
	l, one = append(l, one), nil
	for _, x := range []float64{0, minusZero, least, -least, 0.25, 0.5, underOne, 1, math.Nextafter(1, 2), -0.5, 2, math.Inf(1), math.Inf(-1), oneNaN, otherNaN} {
		one = append(one, func(r *api.Rec) { r.Point = x })
	}
	l, one = append(l, one), nil
	for _, x := range append(goodReads(), badReads()...) {
		one = append(one, func(r *api.Rec) { r.Reads = x })
	}
	l, one = append(l, one), nil
	for _, x := range append(goodWrites(), badWrites()...) {
		one = append(one, func(r *api.Rec) { r.Writes = x })
	}
	l, one = append(l, one), nil
	for _, x := range append(goodParts(), badParts()...) {
		one = append(one, func(r *api.Rec) { r.Parts = x })
	}
	l, one = append(l, one), nil
	for _, x := range append(goodPairs(), badPairs()...) {
		one = append(one, func(r *api.Rec) { r.Pairs = x })
	}
	l, one = append(l, one), nil
	for _, x := range slices.Concat(goodStates(), badStates(), almostZero(), []api.State{{Histories: []api.History{}, Pending: []api.Pending{}}}) {
		one = append(one, func(r *api.Rec) { r.State = x })
	}
	return append(l, one)
}

// The definitions.

func TestParts(t *testing.T) {
	for _, l := range goodParts() {
		if !recs.Parts(l) {
			t.Errorf("P11: Parts(%v) is false", l)
		}
	}
	for _, l := range badParts() {
		if recs.Parts(l) {
			t.Errorf("P11: Parts(%v) is true", l)
		}
	}
	// All lists of up to four numbers.
	var all func(l []int)
	all = func(l []int) {
		if recs.Parts(l) != plainParts(l) {
			t.Errorf("P11: Parts(%v) is %t", l, recs.Parts(l))
		}
		if len(l) == 4 {
			return
		}
		for n := -1; n <= 13; n++ {
			all(append(slices.Clone(l), n))
		}
	}
	all(nil)
}

func TestStateMay(t *testing.T) {
	for i, s := range goodStates() {
		if !recs.StateMay(s) {
			t.Errorf("P11: StateMay is false for %d: %.500s", i, text(s))
		}
	}
	for i, s := range append(badStates(), almostZero()...) {
		if recs.StateMay(s) {
			t.Errorf("P11: StateMay is true for %d: %.500s", i, text(s))
		}
	}
}

func TestStateMayOfAllRangesOfAKey(t *testing.T) {
	for _, key := range append(lowKeys(), highKeys()...) {
		x := place.Of(key)
		for _, s := range []api.State{
			{Histories: []api.History{{Key: key, Versions: []api.Version{{Stamp: moment(1)}}}}}, {Pending: []api.Pending{{Txn: numbered(1), Stamp: moment(1), Reads: []string{key}}}}, {Pending: []api.Pending{{Txn: numbered(1), Stamp: moment(1), Writes: []api.Write{{Key: key}}}}},
		} {
			for _, r := range []api.Range{{ID: 1, Hi: 1}, {ID: 1, Hi: x}, {ID: 1, Lo: x, Hi: 1}, {ID: 1, Lo: x, Hi: math.Nextafter(x, 1)}, {ID: 1, Hi: math.Nextafter(x, 1)}, {ID: 1, Lo: math.Nextafter(x, 1), Hi: 1}, {ID: 1, Hi: 0.5}, {ID: 1, Lo: 0.5, Hi: 1}} {
				s.Range = r
				if got := recs.StateMay(s); got != (x >= r.Lo && x < r.Hi) {
					t.Errorf("P11: StateMay is %t for the place %v: %v", got, x, s)
				}
			}
		}
	}
}

// P11.1

// holdMay holds May, and Encode, to an error.
func holdMay(t *testing.T, r api.Rec, e api.Errno) {
	t.Helper()
	if got := recs.May(r); got != e {
		t.Errorf("P11.1: May is %d, not %d, of %.500s", got, e, text(r))
	}
	if b, got := recs.Encode(r); got != e || (e != api.OK) != (len(b) == 0) {
		t.Errorf("P11.2: Encode is %d bytes, %d, not %d, of %.500s", len(b), got, e, text(r))
	}
}

func TestMayOfFullRecords(t *testing.T) {
	for kind := 1; kind <= 12; kind++ {
		holdMay(t, full(kind), api.OK)
	}
	for _, kind := range others() {
		holdMay(t, api.Rec{Kind: kind}, api.ErrKind)
		// The kind is told ahead of all fields.
		for known := 1; known <= 12; known++ {
			r := full(known)
			r.Kind = kind
			holdMay(t, r, api.ErrKind)
		}
	}
	for kind := 1; kind <= 12; kind++ {
		e := api.ErrForm
		if kind == api.RCeil || kind == api.RClose || kind == api.RBase {
			e = api.OK
		}
		holdMay(t, api.Rec{Kind: kind}, e)
	}
}

func TestMayOfTheFieldsOfEachKind(t *testing.T) {
	decide := func(commit bool, at api.Stamp) api.Rec {
		return api.Rec{Kind: api.RDecide, Txn: numbered(1), Commit: commit, Stamp: at}
	}
	holdMay(t, decide(false, api.Stamp{}), api.OK)
	holdMay(t, decide(true, api.Stamp{}), api.ErrForm)
	for _, at := range goodStamps() {
		holdMay(t, decide(true, at), api.OK)
		holdMay(t, decide(false, at), api.ErrForm)
		holdMay(t, api.Rec{Kind: api.RClose, Stamp: at}, api.OK)
		holdMay(t, api.Rec{Kind: api.RCommit, Txn: numbered(1), Stamp: at, Parts: []int{1}}, api.OK)
		holdMay(t, api.Rec{Kind: api.RPrepare, Txn: numbered(1), Stamp: at, Parts: []int{1}}, api.OK)
	}
	for _, kind := range []int{api.RCommit, api.RPrepare} {
		holdMay(t, api.Rec{Kind: kind, Txn: numbered(1), Parts: []int{1}}, api.ErrForm)
	}
	holdMay(t, api.Rec{Kind: api.RSplit, Point: 0.5, N: 1}, api.OK)
	for n, errors := range map[int][3]api.Errno{
		math.MinInt: {4, 4, 4}, -1: {4, 4, 4}, 0: {0, 4, 4}, 1: {0, 0, 0}, 12: {0, 0, 0}, 13: {0, 4, 0}, 1 << 48: {0, 4, 0}, 1<<48 + 1: {4, 4, 0}, math.MaxInt: {4, 4, 0},
	} {
		for i, kind := range []int{api.RCeil, api.RTook, api.RBoot} {
			holdMay(t, api.Rec{Kind: kind, N: n}, errors[i])
		}
		holdMay(t, api.Rec{Kind: api.RSplit, Point: 0.5, N: n}, errors[1])
	}
	for _, x := range []float64{least, 0.25, underOne} {
		holdMay(t, api.Rec{Kind: api.RSplit, Point: x, N: 3}, api.OK)
	}
	for _, x := range []float64{0, minusZero, -least, -0.5, 1, math.Nextafter(1, 2), math.Inf(1), math.Inf(-1), oneNaN, otherNaN} {
		holdMay(t, api.Rec{Kind: api.RSplit, Point: x, N: 3}, api.ErrForm)
	}
}

func TestMayOfLists(t *testing.T) {
	prepare := func(reads []string, writes []api.Write, parts []int) api.Rec {
		return api.Rec{Kind: api.RPrepare, Txn: numbered(1), Stamp: moment(1), Reads: reads, Writes: writes, Parts: parts}
	}
	apply := func(writes []api.Write) api.Rec {
		return api.Rec{Kind: api.RApply, Txn: numbered(1), Stamp: moment(1), Writes: writes}
	}
	for _, l := range goodReads() {
		holdMay(t, prepare(l, nil, []int{1}), api.OK)
	}
	for _, l := range badReads() {
		holdMay(t, prepare(l, nil, []int{1}), api.ErrForm)
	}
	for _, l := range goodWrites() {
		holdMay(t, prepare(nil, l, []int{1}), api.OK)
		if len(l) > 0 {
			holdMay(t, apply(l), api.OK)
		} else {
			holdMay(t, apply(l), api.ErrForm)
		}
	}
	for _, l := range badWrites() {
		holdMay(t, prepare(nil, l, []int{1}), api.ErrForm)
		holdMay(t, apply(l), api.ErrForm)
	}
	for _, l := range goodParts() {
		holdMay(t, prepare(nil, nil, l), api.OK)
		holdMay(t, api.Rec{Kind: api.RCommit, Txn: numbered(1), Stamp: moment(1), Parts: l}, api.OK)
	}
	for _, l := range badParts() {
		holdMay(t, prepare(nil, nil, l), api.ErrForm)
		holdMay(t, api.Rec{Kind: api.RCommit, Txn: numbered(1), Stamp: moment(1), Parts: l}, api.ErrForm)
	}
	for _, l := range goodPairs() {
		holdMay(t, api.Rec{Kind: api.RBase, Pairs: l}, api.OK)
	}
	for _, l := range badPairs() {
		holdMay(t, api.Rec{Kind: api.RBase, Pairs: l}, api.ErrForm)
	}
	for _, s := range goodStates() {
		holdMay(t, api.Rec{Kind: api.RBirth, State: s}, api.OK)
	}
	for _, s := range badStates() {
		holdMay(t, api.Rec{Kind: api.RBirth, State: s}, api.ErrForm)
	}
}

func TestMayOfApplyAsksThatStampsAscend(t *testing.T) {
	l := append([]api.Stamp{{}}, goodStamps()...)
	for i, prev := range l {
		for k, at := range l {
			e := api.OK
			if i >= k {
				e = api.ErrForm
			}
			holdMay(t, api.Rec{Kind: api.RApply, Prev: prev, Stamp: at, Txn: numbered(1), Writes: []api.Write{{Key: "a"}}}, e)
		}
		for _, bad := range badStamps() {
			holdMay(t, api.Rec{Kind: api.RApply, Prev: prev, Stamp: bad, Txn: numbered(1), Writes: []api.Write{{Key: "a"}}}, api.ErrForm)
			holdMay(t, api.Rec{Kind: api.RApply, Prev: bad, Stamp: prev, Txn: numbered(1), Writes: []api.Write{{Key: "a"}}}, api.ErrForm)
		}
	}
}

func TestMayAsksThatOtherFieldsAreZero(t *testing.T) {
	sets := map[string][]change{
		"Txn": {func(r *api.Rec) { r.Txn.Coord = 1 }, func(r *api.Rec) { r.Txn.Life = 1 }, func(r *api.Rec) { r.Txn.Seq = -1 }}, "Stamp": {func(r *api.Rec) { r.Stamp.Wall = 1 }, func(r *api.Rec) { r.Stamp.Logical = 1 }, func(r *api.Rec) { r.Stamp.Node = 1 }},
		"Prev": {func(r *api.Rec) { r.Prev.Wall = 1 }, func(r *api.Rec) { r.Prev.Logical = 1 }, func(r *api.Rec) { r.Prev.Node = 1 }}, "Commit": {func(r *api.Rec) { r.Commit = true }}, "N": {func(r *api.Rec) { r.N = 1 }, func(r *api.Rec) { r.N = -1 }},
		"Point": {func(r *api.Rec) { r.Point = 0.5 }, func(r *api.Rec) { r.Point = minusZero }, func(r *api.Rec) { r.Point = oneNaN }}, "Reads": {func(r *api.Rec) { r.Reads = []string{"a"} }, func(r *api.Rec) { r.Reads = []string{""} }},
		"Writes": {func(r *api.Rec) { r.Writes = []api.Write{{Key: "a"}} }, func(r *api.Rec) { r.Writes = []api.Write{{}} }}, "Parts": {func(r *api.Rec) { r.Parts = []int{1} }, func(r *api.Rec) { r.Parts = []int{0} }}, "Pairs": {func(r *api.Rec) { r.Pairs = []api.Pair{{Key: "a", Value: number(1)}} }, func(r *api.Rec) { r.Pairs = []api.Pair{{}} }},
	}
	for _, s := range append(almostZero(), fullState()) {
		sets["State"] = append(sets["State"], func(r *api.Rec) { r.State = s })
	}
	for kind, names := range fields {
		for name, l := range sets {
			if slices.Contains(strings.Fields(names), name) {
				continue
			}
			for _, set := range l {
				r := full(kind)
				set(&r)
				holdMay(t, r, api.ErrForm)
			}
		}
		// A list without elements is zero, also if it is not nil.
		r := full(kind)
		for _, set := range []change{
			func(r *api.Rec) { r.Reads = []string{} }, func(r *api.Rec) { r.Writes = []api.Write{} }, func(r *api.Rec) { r.Parts = []int{} }, func(r *api.Rec) { r.Pairs = []api.Pair{} }, func(r *api.Rec) { r.State.Histories = []api.History{} }, func(r *api.Rec) { r.State.Pending = []api.Pending{} },
		} {
			empty := r
			set(&empty)
			if text(empty) == text(r) {
				holdMay(t, empty, api.OK)
			}
		}
	}
}

func TestMayOfAllChangesToAModel(t *testing.T) {
	l := changes()
	right := 0
	for kind := 0; kind <= 13; kind++ {
		for i, some := range l {
			for _, a := range some {
				r := full(kind)
				a(&r)
				if got := recs.May(r); got != plainMay(r) {
					t.Errorf("P11.1: May is %d of %.500s", got, text(r))
				}
				for _, b := range slices.Concat(l[i+1:]...) {
					two := r
					b(&two)
					if got := recs.May(two); got != plainMay(two) {
						t.Fatalf("P11.1: May is %d of %.500s", got, text(two))
					} else if got == api.OK {
						right++
					}
				}
			}
		}
	}
	if right < 1000 {
		t.Errorf("too few records are right: %d", right)
	}
}
