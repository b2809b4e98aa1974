package msgs_test

import (
	"math"
	"slices"
	"testing"

	"headrace/api"
	"headrace/msgs"
	"headrace/recs"
)

func TestNode(t *testing.T) {
	for n := -100; n <= 300; n++ {
		if msgs.Node(n) != plainNode(n) {
			t.Errorf("P12: Node(%d) is %t", n, msgs.Node(n))
		}
	}
	for _, n := range []int{1, 12, 21, 22, 31, 32} {
		if !msgs.Node(n) {
			t.Errorf("P12: Node(%d) is false", n)
		}
	}
	for _, n := range []int{math.MinInt, -1, 0, 13, 20, 23, 30, 33, 1 << 32, 1<<32 + 1, math.MaxInt} {
		if msgs.Node(n) {
			t.Errorf("P12: Node(%d) is true", n)
		}
	}
}

// holdMay holds May, and Encode, to an error.
func holdMay(t *testing.T, m api.Msg, e api.Errno) {
	t.Helper()
	if got := msgs.May(m); got != e {
		t.Errorf("P12.1: May is %d, not %d, of %.500s", got, e, text(m))
	}
	if b, got := msgs.Encode(m); got != e || (e != api.OK) != (len(b) == 0) {
		t.Errorf("P12.2: Encode is %d bytes, %d, not %d, of %.500s", len(b), got, e, text(m))
	}
}

// hold holds messages of a kind, with each change and then these others, to an error.
func hold(t *testing.T, e api.Errno, kind int, l []change, others ...change) {
	t.Helper()
	for _, set := range l {
		holdMay(t, of(kind, append([]change{set}, others...)...), e)
	}
}

// P12.1

func TestMayOfFullMessages(t *testing.T) {
	for _, m := range full() {
		holdMay(t, m, api.OK)
	}
	for _, kind := range others() {
		holdMay(t, api.Msg{Kind: kind}, api.ErrKind)
		holdMay(t, api.Msg{Kind: kind, From: 31, To: 32}, api.ErrKind)
		// The kind is told ahead of all fields.
		for _, m := range full() {
			m.Kind = kind
			holdMay(t, m, api.ErrKind)
			m.From, m.Range = 99, -1
			holdMay(t, m, api.ErrKind)
		}
	}
	for kind := 1; kind <= 14; kind++ {
		e := api.ErrForm
		if kind == api.MHello || kind == api.MHigh {
			e = api.OK
		}
		holdMay(t, api.Msg{Kind: kind, From: 31, To: 32}, e)
	}
}

func TestMayOfNodes(t *testing.T) {
	for n := -5; n <= 70; n++ {
		e := api.ErrForm
		if n >= 1 && n <= 12 || n == 21 || n == 22 || n == 31 || n == 32 {
			e = api.OK
		}
		for _, m := range full() {
			from, to, both := m, m, m
			from.From, to.To, both.From, both.To = n, n, n, n
			holdMay(t, from, e)
			holdMay(t, to, e)
			// A node may write to itself.
			holdMay(t, both, e)
		}
	}
}

// The fields that several kinds have alike.

func TestMayOfTxns(t *testing.T) {
	set := func(m *api.Msg, x api.Txn) { m.Txn = x }
	for _, kind := range []int{api.MRead, api.MSeen, api.MPrepare, api.MVote, api.MDecide, api.MDone, api.MAsk, api.MApply} {
		hold(t, api.OK, kind, each(goodTxns(), set))
		hold(t, api.ErrForm, kind, each(badTxns(), set))
	}
}

func TestMayOfRanges(t *testing.T) {
	for kind := api.MRead; kind <= api.MTook; kind++ {
		for n := 1; n <= 12; n++ {
			holdMay(t, of(kind, func(m *api.Msg) {
				m.Range = n
				if kind == api.MPrepare {
					m.Parts = []int{n}
				}
				if kind == api.MHand {
					m.State.Range.ID = n
				}
			}), api.OK)
		}
		bad := []int{math.MinInt, -4, -1, 0, 13, 14, 21, 1<<32 + 4, math.MaxInt}
		hold(t, api.ErrForm, kind, each(bad, func(m *api.Msg, n int) { m.Range = n }))
		hold(t, api.ErrForm, kind, each(bad, func(m *api.Msg, n int) {
			m.Range, m.Parts, m.State.Range.ID = n, append(m.Parts, n), n
		}))
	}
}

func TestMayOfEpochs(t *testing.T) {
	set := func(m *api.Msg, n int) { m.Epoch = n }
	for _, kind := range []int{api.MRead, api.MPrepare} {
		hold(t, api.OK, kind, each([]int{0, 1, 12, 13, math.MaxInt}, set))
		hold(t, api.ErrForm, kind, each([]int{-1, -2, math.MinInt}, set))
	}
}

func TestMayOfStamps(t *testing.T) {
	set := func(m *api.Msg, s api.Stamp) { m.Stamp = s }
	for _, kind := range []int{api.MRead, api.MSeen, api.MPrepare, api.MVote, api.MPull, api.MHigh} {
		hold(t, api.OK, kind, each(append(goodStamps(), api.Stamp{}), set))
		hold(t, api.ErrForm, kind, each(badStamps(), set))
	}
}

func TestMayOfCodes(t *testing.T) {
	clear := func(m *api.Msg) { m.Seen, m.Ranges = nil, nil }
	for e := api.Errno(1); e <= 25; e++ {
		for _, kind := range []int{api.MSeen, api.MVote} {
			m := of(kind, clear)
			m.Code = e
			holdMay(t, m, api.OK)
			m.Ranges = goodRanges()[0]
			holdMay(t, m, api.OK)
		}
	}
	for _, e := range []api.Errno{math.MinInt, -1, 26, 27, 256, 1<<32 + 1, math.MaxInt} {
		for _, kind := range []int{api.MSeen, api.MVote} {
			holdMay(t, of(kind, func(m *api.Msg) { m.Code = e }), api.ErrForm)
			holdMay(t, of(kind, clear, func(m *api.Msg) { m.Code = e }), api.ErrForm)
		}
	}
}

// The rows of the table.

func TestMayOfRead(t *testing.T) {
	set := func(m *api.Msg, l []string) { m.Keys = l }
	hold(t, api.OK, api.MRead, each(goodKeys(), set))
	hold(t, api.ErrForm, api.MRead, each(append(badKeys(), nil, []string{}), set))
}

func TestMayOfSeen(t *testing.T) {
	set := func(m *api.Msg, l []api.Seen) { m.Seen = l }
	hold(t, api.OK, api.MSeen, each(goodSeen(), set))
	hold(t, api.ErrForm, api.MSeen, each(append(badSeen(), nil, []api.Seen{}), set))
	// With another Code than OK there is no Seen, and with OK there are no Ranges.
	failed := func(m *api.Msg) { m.Code = api.ErrLocked }
	hold(t, api.ErrForm, api.MSeen, each(slices.Concat(goodSeen(), badSeen()), set), failed)
	hold(t, api.OK, api.MSeen, each([][]api.Seen{nil, {}}, set), failed)
	ranges := func(m *api.Msg, l []api.Range) { m.Ranges = l }
	hold(t, api.ErrForm, api.MSeen, each(slices.Concat(goodRanges(), badRanges()), ranges))
	hold(t, api.OK, api.MSeen, each([][]api.Range{nil, {}}, ranges))
	none := func(m *api.Msg) { m.Code, m.Seen = api.ErrLocked, nil }
	hold(t, api.OK, api.MSeen, each(append(goodRanges(), nil, []api.Range{}), ranges), none)
	hold(t, api.ErrForm, api.MSeen, each(badRanges(), ranges), none)
}

func TestMayOfPrepare(t *testing.T) {
	seen := func(m *api.Msg, l []api.Seen) { m.Seen = l }
	hold(t, api.OK, api.MPrepare, each(append(goodSeen(), nil, []api.Seen{}), seen))
	hold(t, api.ErrForm, api.MPrepare, each(badSeen(), seen))
	writes := func(m *api.Msg, l []api.Write) { m.Writes = l }
	hold(t, api.OK, api.MPrepare, each(append(goodWrites(), nil, []api.Write{}), writes))
	hold(t, api.ErrForm, api.MPrepare, each(badWrites(), writes))
	hold(t, api.OK, api.MPrepare, each([][]api.Write{nil}, writes), func(m *api.Msg) { m.Seen = nil })
	parts := func(m *api.Msg, l []int) { m.Parts = l }
	hold(t, api.OK, api.MPrepare, each(goodParts(), parts))
	hold(t, api.ErrForm, api.MPrepare, each(badParts(), parts))
	// All parts are valid, but the range itself is none of them.
	hold(t, api.ErrForm, api.MPrepare, each([][]int{{1}, {3}, {5}, {12}, {3, 5}, {1, 2, 3, 5, 6, 7, 8, 9, 10, 11, 12}}, parts))
}

func TestMayOfVote(t *testing.T) {
	ranges := func(m *api.Msg, l []api.Range) { m.Ranges = l }
	hold(t, api.OK, api.MVote, each([][]api.Range{nil, {}}, ranges))
	hold(t, api.ErrForm, api.MVote, each(slices.Concat(goodRanges(), badRanges()), ranges))
	failed := func(m *api.Msg) { m.Code = api.ErrStale }
	hold(t, api.OK, api.MVote, each(append(goodRanges(), nil, []api.Range{}), ranges), failed)
	hold(t, api.ErrForm, api.MVote, each(badRanges(), ranges), failed)
}

func TestMayOfDecide(t *testing.T) {
	stamp := func(m *api.Msg, s api.Stamp) { m.Stamp = s }
	abort := func(m *api.Msg) { m.Commit = false }
	hold(t, api.OK, api.MDecide, each(goodStamps(), stamp))
	hold(t, api.ErrForm, api.MDecide, each(append(badStamps(), api.Stamp{}), stamp))
	hold(t, api.OK, api.MDecide, each([]api.Stamp{{}}, stamp), abort)
	hold(t, api.ErrForm, api.MDecide, each(append(badStamps(), goodStamps()...), stamp), abort)
}

func TestMayOfPull(t *testing.T) {
	n, most := func(m *api.Msg, n int) { m.N = n }, func(m *api.Msg, n int) { m.Max = n }
	hold(t, api.OK, api.MPull, each([]int{1, 2, 8, 9, 1 << 48, math.MaxInt}, n))
	hold(t, api.ErrForm, api.MPull, each([]int{0, -1, math.MinInt}, n))
	hold(t, api.OK, api.MPull, each([]int{0, 1, 2, 3, 4, 5, 6, 7, 8}, most))
	hold(t, api.ErrForm, api.MPull, each([]int{-1, 9, 10, math.MinInt, math.MaxInt}, most))
}

func TestMayOfBatch(t *testing.T) {
	n, l := func(m *api.Msg, n int) { m.N = n }, func(m *api.Msg, l []api.Rec) { m.Recs = l }
	hold(t, api.OK, api.MBatch, each([]int{1, 2, 8, 9, 1 << 48, math.MaxInt}, n))
	hold(t, api.ErrForm, api.MBatch, each([]int{0, -1, math.MinInt}, n))
	hold(t, api.OK, api.MBatch, each(append(goodRecs(), nil, []api.Rec{}), l))
	hold(t, api.ErrForm, api.MBatch, each(badRecs(), l))
	// A record that is valid, but too long to be written.
	for size, e := range map[int]api.Errno{1 << 18: api.OK, 1<<18 + 1: api.ErrForm} {
		r := sizedRec(size)
		hold(t, e, api.MBatch, each([][]api.Rec{{r}, {{Kind: api.RTook, N: 1}, r}, slices.Repeat([]api.Rec{r}, 8)}, l))
		hold(t, api.ErrForm, api.MBatch, each([][]api.Rec{slices.Repeat([]api.Rec{r}, 9)}, l))
		if recs.May(r) != api.OK {
			t.Errorf("the record of %d bytes is not valid", size)
		}
	}
}

func TestMayOfHand(t *testing.T) {
	state := func(m *api.Msg, s api.State) { m.State = s }
	hold(t, api.OK, api.MHand, each(goodStates(), state))
	hold(t, api.ErrForm, api.MHand, each(slices.Concat(badStates(), almostZero(), []api.State{{}}), state))
	hold(t, api.ErrForm, api.MHand, each([]int{1, 3, 5, 12}, func(m *api.Msg, n int) { m.Range = n }))
	hold(t, api.ErrForm, api.MHand, each([]int{1, 3, 5, 12}, func(m *api.Msg, n int) { m.State.Range.ID = n }))
}

func TestMayOfApply(t *testing.T) {
	writes := func(m *api.Msg, l []api.Write) { m.Writes = l }
	hold(t, api.OK, api.MApply, each(goodWrites(), writes))
	hold(t, api.ErrForm, api.MApply, each(append(badWrites(), nil, []api.Write{}), writes))
	all := append([]api.Stamp{{}}, goodStamps()...)
	for i, prev := range all {
		for k, at := range all {
			e := api.OK
			if i >= k {
				e = api.ErrForm
			}
			holdMay(t, of(api.MApply, func(m *api.Msg) { m.Prev, m.Stamp = prev, at }), e)
		}
		for _, bad := range badStamps() {
			holdMay(t, of(api.MApply, func(m *api.Msg) { m.Prev, m.Stamp = prev, bad }), api.ErrForm)
			holdMay(t, of(api.MApply, func(m *api.Msg) { m.Prev, m.Stamp = bad, prev }), api.ErrForm)
		}
	}
}

// Fields that a kind does not name.

func TestMayAsksThatOtherFieldsAreZero(t *testing.T) {
	sets := map[string][]change{
		"Txn": {func(m *api.Msg) { m.Txn.Coord = 1 }, func(m *api.Msg) { m.Txn.Life = 1 }, func(m *api.Msg) { m.Txn.Seq = -1 }}, "Range": {func(m *api.Msg) { m.Range = 1 }, func(m *api.Msg) { m.Range = -1 }}, "Epoch": {func(m *api.Msg) { m.Epoch = 1 }, func(m *api.Msg) { m.Epoch = -1 }}, "Code": {func(m *api.Msg) { m.Code = 1 }, func(m *api.Msg) { m.Code = -1 }},
		"Stamp": {func(m *api.Msg) { m.Stamp.Wall = 1 }, func(m *api.Msg) { m.Stamp.Logical = 1 }, func(m *api.Msg) { m.Stamp.Node = 1 }}, "Prev": {func(m *api.Msg) { m.Prev.Wall = 1 }, func(m *api.Msg) { m.Prev.Logical = 1 }, func(m *api.Msg) { m.Prev.Node = 1 }}, "Commit": {func(m *api.Msg) { m.Commit = true }}, "N": {func(m *api.Msg) { m.N = 1 }, func(m *api.Msg) { m.N = -1 }}, "Max": {func(m *api.Msg) { m.Max = 1 }, func(m *api.Msg) { m.Max = -1 }},
		"Keys": {func(m *api.Msg) { m.Keys = []string{"a"} }, func(m *api.Msg) { m.Keys = []string{""} }}, "Seen": {func(m *api.Msg) { m.Seen = sights([]string{"a"}, number(1), moment(1)) }, func(m *api.Msg) { m.Seen = []api.Seen{{}} }}, "Writes": {func(m *api.Msg) { m.Writes = []api.Write{{Key: "a"}} }, func(m *api.Msg) { m.Writes = []api.Write{{}} }}, "Parts": {func(m *api.Msg) { m.Parts = []int{4} }, func(m *api.Msg) { m.Parts = []int{0} }},
		"Ranges": {func(m *api.Msg) { m.Ranges = goodRanges()[0] }, func(m *api.Msg) { m.Ranges = []api.Range{{}} }}, "Recs": {func(m *api.Msg) { m.Recs = []api.Rec{{Kind: api.RTook, N: 1}} }, func(m *api.Msg) { m.Recs = []api.Rec{{}} }}, "State": each(append(almostZero(), fullState()), func(m *api.Msg, s api.State) { m.State = s }),
	}
	for _, m := range full() {
		for name, l := range sets {
			if names(m.Kind, name) {
				continue
			}
			for _, set := range l {
				other := m
				set(&other)
				holdMay(t, other, api.ErrForm)
			}
		}
		// A list without elements is zero, also if it is not nil.
		for _, set := range []change{
			func(m *api.Msg) { m.Keys = []string{} }, func(m *api.Msg) { m.Seen = []api.Seen{} }, func(m *api.Msg) { m.Writes = []api.Write{} }, func(m *api.Msg) { m.Parts = []int{} }, func(m *api.Msg) { m.Ranges = []api.Range{} }, func(m *api.Msg) { m.Recs = []api.Rec{} }, func(m *api.Msg) { m.State.Histories = []api.History{} }, func(m *api.Msg) { m.State.Pending = []api.Pending{} },
		} {
			other := m
			set(&other)
			if text(other) == text(m) {
				holdMay(t, other, api.OK)
			}
		}
	}
}

func TestMayOfAllChangesToAModel(t *testing.T) {
	all, order := changes(), fieldNames()
	bases := full()
	for _, kind := range others()[:3] {
		bases = append(bases, api.Msg{Kind: kind, From: 1, To: 1})
	}
	good := 0
	for _, m := range bases {
		for i, name := range order {
			for _, a := range all[name] {
				one := m
				a(&one)
				if got := msgs.May(one); got != plainMay(one) {
					t.Fatalf("P12.1: May is %d of %.500s", got, text(one))
				}
				for _, next := range order[i+1:] {
					// Two fields of which the kind names neither say nothing new.
					if !names(m.Kind, name) && !names(m.Kind, next) {
						continue
					}
					for _, b := range all[next] {
						two := one
						b(&two)
						if got := msgs.May(two); got != plainMay(two) {
							t.Fatalf("P12.1: May is %d of %.500s", got, text(two))
						} else if got == api.OK {
							good++
						}
					}
				}
			}
		}
	}
	if good < 10000 {
		t.Errorf("too few messages are right: %d", good)
	}
}
