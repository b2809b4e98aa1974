package msgs_test

import (
	"math"
	"slices"
	"strings"

	"headrace/api"
	"headrace/place"
)

var (
	minusZero = math.Copysign(0, -1)
	oneNaN    = math.Float64frombits(0x7FF8000000000000)
	otherNaN  = math.Float64frombits(0x7FF8000000000001)
	least     = math.SmallestNonzeroFloat64
)

// moment is the stamp {wall, 0, 1}.
func moment(wall int) api.Stamp { return api.Stamp{Wall: wall, Node: 1} }

// numbered is a transaction of the first coordinator's first life.
func numbered(seq int) api.Txn { return api.Txn{Coord: 1, Life: 1, Seq: seq} }

func number(x float64) api.Value { return api.Value{Kind: 1, Num: x} }
func words(s string) api.Value   { return api.Value{Kind: 2, Text: s} }

// letters lists n keys in ascending order.
func letters(n int) []string {
	var l []string
	for i := range n {
		l = append(l, string(rune('A'+i)))
	}
	return l
}

// The good ones of each thing may stand in a message, the bad ones nowhere.

func goodTxns() []api.Txn {
	return []api.Txn{numbered(1), {Coord: 1, Life: 2, Seq: 3}, {Coord: 1, Life: math.MaxInt, Seq: 1}, {Coord: 2, Life: 1, Seq: math.MaxInt}}
}

func badTxns() []api.Txn {
	return []api.Txn{{}, {Life: 1, Seq: 1}, {Coord: 1, Seq: 1}, {Coord: 1, Life: 1}, {Coord: 3, Life: 1, Seq: 1}, {Coord: -1, Life: 1, Seq: 1}, {Coord: 1, Life: -1, Seq: 1}, {Coord: 1, Life: 1, Seq: math.MinInt}}
}

// goodStamps come behind the zero Stamp, in ascending order.
func goodStamps() []api.Stamp {
	return []api.Stamp{{Node: 1}, {Node: 63}, {Logical: 1}, {Logical: 65535, Node: 63}, {Wall: 1}, {Wall: 5, Logical: 6, Node: 6}, {Wall: 5, Logical: 6, Node: 7}, {Wall: 5, Logical: 6, Node: 8}, {Wall: 1 << 48}, {Wall: 1 << 48, Logical: 65535, Node: 63}}
}

func badStamps() []api.Stamp {
	return []api.Stamp{{Wall: -1, Logical: 1, Node: 1}, {Wall: 1, Logical: -1, Node: 1}, {Wall: 1, Logical: 1, Node: -1}, {Wall: 1<<48 + 1}, {Wall: 1, Logical: 65536}, {Wall: 1, Node: 64}, {Wall: math.MinInt}, {Wall: math.MaxInt}}
}

// goodValues begin with None.
func goodValues() []api.Value {
	return []api.Value{{}, number(0), number(minusZero), number(oneNaN), number(math.Inf(-1)), number(least), words(""), words("\x00\xff\""), words(strings.Repeat("t", 63)), words(strings.Repeat("t", 64))}
}

func badValues() []api.Value {
	return []api.Value{{Num: 1}, {Num: minusZero}, {Text: "x"}, number(otherNaN), {Kind: 1, Text: "x"}, {Kind: 2, Num: 1}, {Kind: 2, Num: minusZero}, words(strings.Repeat("t", 65)), {Kind: 3}, {Kind: -1}}
}

func goodKeys() [][]string {
	return [][]string{{"a"}, {"\x00", "\x00\x00", " ", "é", "\xff"}, {"a", "aa", "b"}, {strings.Repeat("k", 24)}, letters(15), letters(16)}
}

func badKeys() [][]string {
	return [][]string{{""}, {"", "a"}, {"a", ""}, {"a", "a"}, {"b", "a"}, {"a", "c", "b"}, {strings.Repeat("k", 25)}, {"a", strings.Repeat("k", 25), "z"}, letters(17), letters(26)}
}

// sight is one key that was seen.
func sight(key string, v api.Value, at api.Stamp) api.Seen {
	return api.Seen{Key: key, Value: v, Stamp: at}
}

// sights are keys that were all seen alike.
func sights(keys []string, v api.Value, at api.Stamp) []api.Seen {
	var l []api.Seen
	for _, key := range keys {
		l = append(l, sight(key, v, at))
	}
	return l
}

// amid is a sight alone, and between others.
func amid(s api.Seen) [][]api.Seen {
	return [][]api.Seen{{s}, {sight("0", words("x"), moment(1)), s, sight("b", api.Value{}, api.Stamp{})}}
}

func goodSeen() [][]api.Seen {
	var l [][]api.Seen
	for _, keys := range goodKeys() {
		l = append(l, sights(keys, number(1), moment(1)), sights(keys, api.Value{}, api.Stamp{}))
	}
	for _, v := range goodValues() {
		l = append(l, amid(sight("a", v, moment(5)))...)
	}
	for _, at := range goodStamps() {
		l = append(l, amid(sight("a", words("x"), at))...)
		l = append(l, amid(sight("a", api.Value{}, at))...)
	}
	return l
}

func badSeen() [][]api.Seen {
	var l [][]api.Seen
	for _, keys := range badKeys() {
		l = append(l, sights(keys, number(1), moment(1)), sights(keys, api.Value{}, api.Stamp{}))
	}
	for _, v := range badValues() {
		l = append(l, amid(sight("a", v, moment(5)))...)
		l = append(l, amid(sight("a", v, api.Stamp{}))...)
	}
	// At the zero Stamp there is nothing.
	for _, v := range goodValues()[1:] {
		l = append(l, amid(sight("a", v, api.Stamp{}))...)
	}
	for _, at := range badStamps() {
		l = append(l, amid(sight("a", number(1), at))...)
		l = append(l, amid(sight("a", api.Value{}, at))...)
	}
	return l
}

// writing is a write of the value to each of the keys.
func writing(keys []string, v api.Value) []api.Write {
	var l []api.Write
	for _, key := range keys {
		l = append(l, api.Write{Key: key, Value: v})
	}
	return l
}

func goodWrites() [][]api.Write {
	var l [][]api.Write
	for _, keys := range goodKeys() {
		l = append(l, writing(keys, number(1)))
	}
	for _, v := range goodValues() {
		l = append(l, writing([]string{"a"}, v), append(writing([]string{"a", "b"}, words("x")), api.Write{Key: "c", Value: v}))
	}
	return l
}

func badWrites() [][]api.Write {
	var l [][]api.Write
	for _, keys := range badKeys() {
		l = append(l, writing(keys, number(1)))
	}
	for _, v := range badValues() {
		l = append(l, writing([]string{"a"}, v), append(writing([]string{"a", "b"}, words("x")), api.Write{Key: "c", Value: v}))
	}
	return l
}

// goodParts all have the fourth range.
func goodParts() [][]int {
	return [][]int{{4}, {4, 12}, {1, 4}, {2, 3, 4, 5}, {1, 2, 3, 4, 5, 6, 7, 8, 9, 10, 11, 12}}
}

func badParts() [][]int {
	return [][]int{nil, {}, {0, 4}, {4, 13}, {-1, 4}, {4, 4}, {4, 3}, {1, 5, 4}, {4, math.MaxInt}, {math.MinInt, 4}, {1, 2, 3, 4, 5, 6, 7, 8, 9, 10, 11, 12, 12}, {1, 2, 3, 4, 5, 6, 7, 8, 9, 10, 11, 12, 13}}
}

// goodRanges need not be a cover.
func goodRanges() [][]api.Range {
	one := api.Range{ID: 4, Epoch: 7, Lo: 0.25, Hi: 0.5}
	return [][]api.Range{{one}, {one, one}, {{ID: 12, Epoch: math.MaxInt, Hi: least}, {ID: 1, Lo: math.Nextafter(1, 0), Hi: 1}}, slices.Repeat([]api.Range{one}, 11), slices.Repeat([]api.Range{one}, 12)}
}

func badRanges() [][]api.Range {
	one := api.Range{ID: 4, Epoch: 7, Lo: 0.25, Hi: 0.5}
	l := [][]api.Range{slices.Repeat([]api.Range{one}, 13), slices.Repeat([]api.Range{one}, 99)}
	for _, r := range []api.Range{
		{}, {ID: 0, Hi: 1}, {ID: 13, Hi: 1}, {ID: -1, Hi: 1}, {ID: 1, Epoch: -1, Hi: 1}, {ID: 1, Lo: minusZero, Hi: 1}, {ID: 1, Lo: 0.5, Hi: 0.5}, {ID: 1, Lo: 1, Hi: 0.5}, {ID: 1, Lo: -1, Hi: 1}, {ID: 1, Hi: 2}, {ID: 1, Lo: oneNaN, Hi: 1}, {ID: 1, Hi: otherNaN}, {ID: 1, Hi: math.Inf(1)},
	} {
		l = append(l, []api.Range{r}, []api.Range{one, r}, []api.Range{r, one})
	}
	return l
}

// records are one of each kind.
func records() []api.Rec {
	return []api.Rec{
		{Kind: api.RBirth, State: fullState()}, {Kind: api.RCeil, N: 9}, {Kind: api.RPrepare, Txn: numbered(1), Stamp: moment(1), Reads: []string{"a"}, Writes: writing([]string{"b"}, number(oneNaN)), Parts: []int{1, 4}}, {Kind: api.RDecide, Txn: numbered(1), Commit: true, Stamp: moment(1)}, {Kind: api.RClose, Stamp: moment(1)}, {Kind: api.RSplit, Point: 0.5, N: 2, Stamp: moment(1)},
		{Kind: api.RTook, N: 2}, {Kind: api.RBoot, N: 1}, {Kind: api.RCommit, Txn: numbered(1), Stamp: moment(1), Parts: []int{1}}, {Kind: api.REnd, Txn: numbered(1)}, {Kind: api.RApply, Stamp: moment(1), Txn: numbered(1), Writes: writing([]string{"b"}, words("x"))}, {Kind: api.RBase, Stamp: moment(1), Pairs: []api.Pair{{Key: "a", Value: number(1)}}},
	}
}

func goodRecs() [][]api.Rec {
	l := [][]api.Rec{records()[:8], records()[5:], {{Kind: api.RTook, N: 1}, {Kind: api.RTook, N: 1}}}
	for _, r := range records() {
		l = append(l, []api.Rec{r})
	}
	return l
}

func badRecs() [][]api.Rec {
	good := api.Rec{Kind: api.RTook, N: 1}
	l := [][]api.Rec{records(), records()[:9], slices.Repeat([]api.Rec{good}, 9)}
	for _, r := range []api.Rec{{}, {Kind: 13}, {Kind: api.RTook}, {Kind: api.RTook, N: 1, Commit: true}, {Kind: api.RTook, N: 1, Point: minusZero}, {Kind: api.RBirth}} {
		l = append(l, []api.Rec{r}, []api.Rec{good, r}, []api.Rec{r, good})
	}
	return l
}

// fullState has something in each of its fields.
func fullState() api.State {
	return api.State{
		Range: api.Range{ID: 4, Epoch: 2, Hi: 1}, Floor: api.Stamp{Wall: 7, Logical: 2, Node: 3}, Closed: api.Stamp{Wall: 4, Logical: 1, Node: 2},
		Histories: []api.History{
			{Key: "a", Versions: []api.Version{{Stamp: moment(1), Value: words("x")}, {Stamp: moment(6)}}},
			{Key: "c", Versions: []api.Version{{Stamp: moment(3), Value: number(minusZero)}}},
		},
		Pending: []api.Pending{
			{Txn: numbered(2), Stamp: moment(9), Reads: []string{"a", "b"}, Writes: []api.Write{{Key: "a", Value: number(oneNaN)}, {Key: "d"}}},
			{Txn: numbered(1), Stamp: moment(8), Reads: []string{"b"}},
		},
	}
}

// states are the full state with one thing changed each.
func states(changes ...func(s *api.State)) []api.State {
	var l []api.State
	for _, change := range changes {
		s := fullState()
		change(&s)
		l = append(l, s)
	}
	return l
}

// goodStates are all of the fourth range.
func goodStates() []api.State {
	at := place.Of("a")
	edge := []api.History{{Key: "a", Versions: []api.Version{{Stamp: moment(1)}}}}
	return append(states(
		func(s *api.State) { s.Floor = api.Stamp{} }, func(s *api.State) { s.Closed = api.Stamp{} }, func(s *api.State) { s.Histories = nil }, func(s *api.State) { s.Pending = nil }, func(s *api.State) { s.Range.Epoch = math.MaxInt },
	), fullState(), api.State{Range: api.Range{ID: 4, Hi: 1}}, api.State{Range: api.Range{ID: 4, Lo: at, Hi: 1}, Histories: edge}, api.State{Range: api.Range{ID: 4, Hi: math.Nextafter(at, 1)}, Histories: edge})
}

func badStates() []api.State {
	at := place.Of("a")
	edge := []api.History{{Key: "a", Versions: []api.Version{{Stamp: moment(1)}}}}
	return append(states(
		func(s *api.State) { s.Range.ID = 0 }, func(s *api.State) { s.Range.ID = 13 }, func(s *api.State) { s.Range.Epoch = -1 }, func(s *api.State) { s.Range.Hi = 2 }, func(s *api.State) { s.Range.Lo = minusZero }, func(s *api.State) { s.Floor.Node = 64 }, func(s *api.State) { s.Floor.Wall = -1 }, func(s *api.State) { s.Closed.Logical = 65536 },
		func(s *api.State) { s.Histories[1].Versions = nil }, func(s *api.State) { s.Histories[1].Key = "a" }, func(s *api.State) { s.Histories[0].Key = "" }, func(s *api.State) { s.Histories[0].Versions[0].Value = api.Value{Kind: 3} }, func(s *api.State) { slices.Reverse(s.Histories) }, func(s *api.State) { slices.Reverse(s.Histories[0].Versions) },
		func(s *api.State) { s.Pending[1].Txn = numbered(2) }, func(s *api.State) { s.Pending[1].Stamp = api.Stamp{} }, func(s *api.State) { s.Pending[1].Reads = []string{"d"} }, func(s *api.State) { s.Pending[0].Stamp = moment(6) }, func(s *api.State) { slices.Reverse(s.Pending[0].Writes) },
	), api.State{Range: api.Range{ID: 4, Lo: math.Nextafter(at, 1), Hi: 1}, Histories: edge}, api.State{Range: api.Range{ID: 4, Hi: at}, Histories: edge},
		api.State{Range: api.Range{ID: 4, Hi: at}, Pending: []api.Pending{{Txn: numbered(1), Stamp: moment(1), Reads: []string{"a"}}}})
}

// almostZero are states with one thing that is not zero.
func almostZero() []api.State {
	return []api.State{
		{Range: api.Range{ID: 1}}, {Range: api.Range{Epoch: 1}}, {Range: api.Range{Lo: 0.5}}, {Range: api.Range{Hi: 0.5}}, {Range: api.Range{Lo: minusZero}}, {Range: api.Range{Hi: minusZero}}, {Range: api.Range{Lo: oneNaN}}, {Range: api.Range{Hi: least}},
		{Floor: api.Stamp{Wall: 1}}, {Floor: api.Stamp{Logical: -1}}, {Floor: api.Stamp{Node: 1}}, {Closed: api.Stamp{Wall: 1}}, {Closed: api.Stamp{Logical: 1}}, {Closed: api.Stamp{Node: 1}}, {Histories: []api.History{{}}}, {Pending: []api.Pending{{}}},
	}
}

// full has valid messages of all kinds in which each field that is named has something, if it may.
func full() []api.Msg {
	t, at := api.Txn{Coord: 2, Life: 3, Seq: 4}, api.Stamp{Wall: 5, Logical: 6, Node: 7}
	saw := []api.Seen{{Key: "a", Value: number(oneNaN), Stamp: moment(3)}, {Key: "b"}, {Key: "c", Stamp: api.Stamp{Wall: 4, Logical: 2, Node: 9}}}
	writes := []api.Write{{Key: "a", Value: number(-1)}, {Key: "b"}, {Key: "c", Value: words("xyz")}}
	ranges := []api.Range{{ID: 4, Epoch: 3, Lo: 0.25, Hi: 0.5}, {ID: 9, Lo: 0.5, Hi: 1}}
	l := []api.Msg{
		{Kind: api.MRead, Txn: t, Range: 4, Epoch: 9, Stamp: at, Keys: []string{"a", "xy"}}, {Kind: api.MSeen, Txn: t, Range: 4, Stamp: at, Seen: saw}, {Kind: api.MSeen, Txn: t, Range: 4, Code: api.ErrEpoch, Stamp: at, Ranges: ranges}, {Kind: api.MPrepare, Txn: t, Range: 4, Epoch: 9, Stamp: at, Seen: saw, Writes: writes, Parts: []int{2, 4, 12}},
		{Kind: api.MVote, Txn: t, Range: 4, Stamp: at}, {Kind: api.MVote, Txn: t, Range: 4, Code: api.ErrEpoch, Stamp: at, Ranges: ranges}, {Kind: api.MDecide, Txn: t, Range: 4, Commit: true, Stamp: at}, {Kind: api.MDecide, Txn: t, Range: 4}, {Kind: api.MDone, Txn: t, Range: 4}, {Kind: api.MAsk, Txn: t, Range: 4},
		{Kind: api.MPull, Range: 4, N: 9, Max: 3, Stamp: at}, {Kind: api.MBatch, Range: 4, N: 9, Recs: []api.Rec{{Kind: api.RTook, N: 3}, {Kind: api.REnd, Txn: t}}}, {Kind: api.MHand, Range: 4, State: fullState()}, {Kind: api.MTook, Range: 4}, {Kind: api.MApply, Prev: api.Stamp{Wall: 5, Logical: 6, Node: 6}, Stamp: at, Txn: t, Writes: writes}, {Kind: api.MHello}, {Kind: api.MHigh, Stamp: at},
	}
	for i := range l {
		l[i].From, l[i].To = 3, 22
	}
	return l
}

// of is the first full message of the kind, with these changes.
func of(kind int, sets ...change) api.Msg {
	l := full()
	m := l[slices.IndexFunc(l, func(m api.Msg) bool { return m.Kind == kind })]
	for _, set := range sets {
		set(&m)
	}
	return m
}

// others are numbers that no kind has.
func others() []int { return []int{0, -1, 15, 16, 99, -13, 256 + 1, math.MaxInt, math.MinInt} }

// change sets a field of a message.
type change func(m *api.Msg)

// each makes a change of each thing.
func each[T any](l []T, set func(m *api.Msg, x T)) []change {
	var out []change
	for _, x := range l {
		out = append(out, func(m *api.Msg) { set(m, x) })
	}
	return out
}

// changes have, field by field, what it may be set to, right or wrong.
func changes() map[string][]change {
	stamps := slices.Concat([]api.Stamp{{}}, goodStamps(), badStamps())
	nodes := []int{math.MinInt, -1, 0, 1, 12, 13, 20, 21, 22, 23, 30, 31, 32, 33, math.MaxInt}
	return map[string][]change{
		"From": each(nodes, func(m *api.Msg, n int) { m.From = n }), "To": each(nodes, func(m *api.Msg, n int) { m.To = n }),
		"Txn": each(append(goodTxns(), badTxns()...), func(m *api.Msg, t api.Txn) { m.Txn = t }), "Range": each([]int{math.MinInt, -1, 0, 1, 2, 3, 4, 5, 11, 12, 13, 21, math.MaxInt}, func(m *api.Msg, n int) { m.Range = n }), "Epoch": each([]int{math.MinInt, -1, 0, 1, math.MaxInt}, func(m *api.Msg, n int) { m.Epoch = n }),
		"Code": each([]api.Errno{math.MinInt, -1, 0, 1, 12, 24, 25, 26, math.MaxInt}, func(m *api.Msg, e api.Errno) { m.Code = e }), "Stamp": each(stamps, func(m *api.Msg, s api.Stamp) { m.Stamp = s }), "Prev": each(stamps, func(m *api.Msg, s api.Stamp) { m.Prev = s }), "Commit": each([]bool{false, true}, func(m *api.Msg, b bool) { m.Commit = b }),
		"N": each([]int{math.MinInt, -1, 0, 1, 2, 8, 9, math.MaxInt}, func(m *api.Msg, n int) { m.N = n }), "Max": each([]int{math.MinInt, -1, 0, 1, 7, 8, 9, math.MaxInt}, func(m *api.Msg, n int) { m.Max = n }),
		"Keys": each(slices.Concat([][]string{nil, {}}, goodKeys(), badKeys()), func(m *api.Msg, l []string) { m.Keys = l }), "Seen": each(slices.Concat([][]api.Seen{nil, {}}, goodSeen(), badSeen()), func(m *api.Msg, l []api.Seen) { m.Seen = l }), "Writes": each(slices.Concat([][]api.Write{nil, {}}, goodWrites(), badWrites()), func(m *api.Msg, l []api.Write) { m.Writes = l }),
		"Parts": each(slices.Concat(goodParts(), badParts(), [][]int{{3}, {3, 5}}), func(m *api.Msg, l []int) { m.Parts = l }), "Ranges": each(slices.Concat([][]api.Range{nil, {}}, goodRanges(), badRanges()), func(m *api.Msg, l []api.Range) { m.Ranges = l }), "Recs": each(slices.Concat([][]api.Rec{nil, {}}, goodRecs(), badRecs()), func(m *api.Msg, l []api.Rec) { m.Recs = l }),
		"State": each(slices.Concat([]api.State{{}, {Histories: []api.History{}, Pending: []api.Pending{}}}, goodStates(), badStates(), almostZero()), func(m *api.Msg, s api.State) { m.State = s }),
	}
}

// fieldNames are the fields in their order.
func fieldNames() []string {
	return strings.Fields("From To Txn Range Epoch Code Stamp Prev Commit N Max Keys Seen Writes Parts Ranges Recs State")
}

// right lists valid messages: the full ones, and those with one field changed.
func right() []api.Msg {
	l := append(full(), of(api.MSeen, func(m *api.Msg) { m.Code, m.Seen = 1, nil }), of(api.MPrepare, func(m *api.Msg) { m.Parts, m.Writes, m.Seen = []int{4}, nil, nil }))
	all := changes()
	for _, m := range full() {
		for _, name := range fieldNames() {
			for _, set := range all[name] {
				other := m
				set(&other)
				if plainMay(other) == api.OK && text(other) != text(m) {
					l = append(l, other)
				}
			}
		}
	}
	return l
}
