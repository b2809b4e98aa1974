package mvcc_test

import (
	"math"
	"slices"
	"strings"
	"testing"

	"headrace/api"
	"headrace/mvcc"
)

// moment is the stamp {wall, 0, 1}, as the chapter's examples write it.
func moment(wall int) api.Stamp { return api.Stamp{Wall: wall, Node: 1} }

// numbered is the transaction that the chapter's examples call by its Seq.
func numbered(seq int) api.Txn { return api.Txn{Coord: 1, Life: 1, Seq: seq} }

func number(x float64) api.Value { return api.Value{Kind: 1, Num: x} }
func words(s string) api.Value   { return api.Value{Kind: 2, Text: s} }

// letters splits a text into keys of one letter.
func letters(s string) []string {
	if s == "" {
		return nil
	}
	return strings.Split(s, "")
}

// writing is a list of writes of one value to keys of one letter.
func writing(keys string, v api.Value) []api.Write {
	var l []api.Write
	for _, key := range letters(keys) {
		l = append(l, api.Write{Key: key, Value: v})
	}
	return l
}

// prepared is a transaction that reads and writes keys of one letter; each becomes the number of its wall.
func prepared(seq, wall int, reads, writes string) api.Pending {
	return api.Pending{Txn: numbered(seq), Stamp: moment(wall), Reads: letters(reads), Writes: writing(writes, number(float64(wall)))}
}

// goodStamps lists valid stamps behind the zero Stamp, in ascending order.
func goodStamps() []api.Stamp {
	return []api.Stamp{{Node: 1}, {Node: 63}, {Logical: 1}, {Logical: 65535, Node: 63}, {Wall: 1}, {Wall: 1, Node: 1}, {Wall: 1 << 48}, {Wall: 1 << 48, Logical: 65535, Node: 63}}
}

// badStamps lists stamps that are not valid.
func badStamps() []api.Stamp {
	return []api.Stamp{
		{Wall: -1, Logical: 1, Node: 1}, {Wall: 1, Logical: -1, Node: 1}, {Wall: 1, Logical: 1, Node: -1}, {Wall: 1<<48 + 1}, {Wall: 1, Logical: 65536}, {Wall: 1, Node: 64},
		{Wall: math.MinInt}, {Wall: math.MaxInt}, {Wall: 5, Logical: math.MinInt}, {Wall: 5, Logical: math.MaxInt}, {Wall: 5, Node: math.MinInt}, {Wall: 5, Node: math.MaxInt},
	}
}

var (
	minusZero = math.Copysign(0, -1)
	oneNaN    = math.Float64frombits(0x7FF8000000000000)
	otherNaN  = math.Float64frombits(0x7FF8000000000001)
)

// goodValues lists valid values; the first one is None.
func goodValues() []api.Value {
	return []api.Value{
		{}, number(0), number(minusZero), number(oneNaN), number(math.Inf(1)), number(math.Inf(-1)), number(-2.5), number(5e-324), number(math.MaxFloat64),
		words(""), words("x"), words(strings.Repeat("t", 64)),
	}
}

// badValues lists values that are not valid.
func badValues() []api.Value {
	return []api.Value{
		{Num: 1}, {Num: minusZero}, {Text: "x"}, number(otherNaN), number(-oneNaN), {Kind: 1, Text: "x"}, {Kind: 2, Num: 1}, {Kind: 2, Num: minusZero},
		words(strings.Repeat("t", 65)), {Kind: 3}, {Kind: -1}, {Kind: math.MaxInt}, {Kind: math.MinInt},
	}
}

// goodKeys lists keys in ascending order.
func goodKeys() []string {
	return []string{"\x00", "\x00\x00", " ", "A", "a", "a\x00", "aa", "b", strings.Repeat("k", 23), strings.Repeat("k", 24), "é", "\xff"}
}

// badKeys lists strings that are not keys.
func badKeys() []string {
	return []string{"", strings.Repeat("k", 25), strings.Repeat("k", 10000)}
}

// goodTxns lists valid numbers of transactions in ascending order.
func goodTxns() []api.Txn {
	return []api.Txn{{Coord: 1, Life: 1, Seq: 1}, {Coord: 1, Life: 1, Seq: math.MaxInt}, {Coord: 1, Life: 2, Seq: 1}, {Coord: 1, Life: math.MaxInt, Seq: 1}, {Coord: 2, Life: 1, Seq: 1}, {Coord: 2, Life: math.MaxInt, Seq: math.MaxInt}}
}

// badTxns lists numbers that no transaction has.
func badTxns() []api.Txn {
	return []api.Txn{
		{}, {Life: 1, Seq: 1}, {Coord: 1, Seq: 1}, {Coord: 1, Life: 1}, {Coord: 3, Life: 1, Seq: 1}, {Coord: -1, Life: 1, Seq: 1}, {Coord: 1, Life: -1, Seq: 1}, {Coord: 1, Life: 1, Seq: -1},
		{Coord: math.MaxInt, Life: 1, Seq: 1}, {Coord: math.MinInt, Life: 1, Seq: 1}, {Coord: 1, Life: math.MinInt, Seq: 1}, {Coord: 1, Life: 1, Seq: math.MinInt},
	}
}

// The definitions.

func TestTxnMay(t *testing.T) {
	for _, x := range goodTxns() {
		if !mvcc.TxnMay(x) {
			t.Errorf("P10: TxnMay(%v) is false", x)
		}
	}
	for _, x := range badTxns() {
		if mvcc.TxnMay(x) {
			t.Errorf("P10: TxnMay(%v) is true", x)
		}
	}
}

func TestTxnLess(t *testing.T) {
	var l []api.Txn
	numbers := []int{math.MinInt, -1, 0, 1, 2, math.MaxInt}
	for _, coord := range numbers {
		for _, life := range numbers {
			for _, seq := range numbers {
				l = append(l, api.Txn{Coord: coord, Life: life, Seq: seq})
			}
		}
	}
	for i, a := range l {
		for k, b := range l {
			if got := mvcc.TxnLess(a, b); got != (i < k) {
				t.Fatalf("P10: TxnLess(%v, %v) is %t", a, b, got)
			}
		}
	}
}

// wrongPending is a transaction with the error that PendingMay has for it.
type wrongPending struct {
	p api.Pending
	e api.Errno
}

// each returns n keys in strictly ascending order.
func each(n int) []string {
	var l []string
	for i := range n {
		l = append(l, "k"+string([]byte{byte('0' + i/100), byte('0' + i/10%10), byte('0' + i%10)}))
	}
	return l
}

// toEach returns a write to each of the keys.
func toEach(keys []string) []api.Write {
	var l []api.Write
	for i, key := range keys {
		l = append(l, api.Write{Key: key, Value: number(float64(i))})
	}
	return l
}

// rightPendings lists valid transactions with different Txns and no keys in common.
func rightPendings() []api.Pending {
	l := []api.Pending{
		{Reads: []string{"a"}}, {Writes: writing("b", api.Value{})}, {Reads: letters("cde"), Writes: writing("cfg", words("x"))},
		{Reads: each(16)}, {Writes: toEach(letters("hijklmnopqrstuvw"))}, {},
	}
	for i := range l {
		l[i].Txn, l[i].Stamp = goodTxns()[i], goodStamps()[i]
	}
	return l
}

// wrongKeys lists lists that are not at most 16 keys in strictly ascending order.
func wrongKeys() [][]string {
	l := [][]string{
		each(17), each(18), each(1000), {"b", "a"}, {"a", "a"}, {"a", "c", "b"}, {"a", "b", "b"}, {"a", "b", "a"}, {"aa", "a"}, {"a", "B"}, {"a\x00", "a"}, {"\xff", "é"},
	}
	for _, key := range badKeys() {
		l = append(l, []string{key}, []string{"a", key}, []string{key, "z"}, []string{"a", key, "z"})
	}
	return l
}

// wrongPendings lists transactions that are not valid.
func wrongPendings() []wrongPending {
	var l []wrongPending
	for _, x := range badTxns() {
		l = append(l, wrongPending{api.Pending{Txn: x, Stamp: moment(1)}, api.ErrForm})
		// The Txn is told ahead of the Stamp.
		l = append(l, wrongPending{api.Pending{Txn: x}, api.ErrForm}, wrongPending{api.Pending{Txn: x, Stamp: api.Stamp{Wall: -1}}, api.ErrForm})
	}
	for _, at := range append(badStamps(), api.Stamp{}) {
		l = append(l, wrongPending{api.Pending{Txn: numbered(1), Stamp: at}, api.ErrStamp})
		// The Stamp is told ahead of the keys.
		l = append(l, wrongPending{api.Pending{Txn: numbered(1), Stamp: at, Reads: []string{""}, Writes: toEach(each(17))}, api.ErrStamp})
	}
	for _, keys := range wrongKeys() {
		l = append(l, wrongPending{api.Pending{Txn: numbered(1), Stamp: moment(1), Reads: keys}, api.ErrForm})
		l = append(l, wrongPending{api.Pending{Txn: numbered(1), Stamp: moment(1), Writes: toEach(keys)}, api.ErrForm})
	}
	for _, v := range badValues() {
		for i := range 3 {
			writes := writing("abc", number(1))
			writes[i].Value = v
			l = append(l, wrongPending{api.Pending{Txn: numbered(1), Stamp: moment(1), Writes: writes}, api.ErrForm})
		}
	}
	return l
}

func TestPendingMay(t *testing.T) {
	for _, p := range rightPendings() {
		if e := mvcc.PendingMay(p); e != api.OK {
			t.Errorf("P10: PendingMay(%v) is %d", p, e)
		}
	}
	for _, c := range wrongPendings() {
		if e := mvcc.PendingMay(c.p); e != c.e {
			t.Errorf("P10: PendingMay(%.300v) is %d, not %d", c.p, e, c.e)
		}
	}
}

func TestPendingMayOfStampsKeysAndValues(t *testing.T) {
	for _, at := range goodStamps() {
		if e := mvcc.PendingMay(api.Pending{Txn: numbered(1), Stamp: at}); e != api.OK {
			t.Errorf("P10: with the stamp %v: %d", at, e)
		}
	}
	keys := goodKeys()
	if !slices.IsSorted(keys) {
		t.Fatal("the keys are not in order")
	}
	if e := mvcc.PendingMay(api.Pending{Txn: numbered(1), Stamp: moment(1), Reads: keys, Writes: toEach(keys)}); e != api.OK {
		t.Errorf("P10: with the keys %q: %d", keys, e)
	}
	for _, v := range goodValues() {
		if e := mvcc.PendingMay(api.Pending{Txn: numbered(1), Stamp: moment(1), Writes: writing("ab", v)}); e != api.OK {
			t.Errorf("P10: with the value %v: %d", v, e)
		}
	}
	for n, want := range map[int]api.Errno{0: api.OK, 1: api.OK, 15: api.OK, 16: api.OK, 17: api.ErrForm, 18: api.ErrForm} {
		p := api.Pending{Txn: numbered(1), Stamp: moment(1), Reads: each(n)}
		if e := mvcc.PendingMay(p); e != want {
			t.Errorf("P10: with %d reads: %d", n, e)
		}
		p = api.Pending{Txn: numbered(1), Stamp: moment(1), Writes: toEach(each(n))}
		if e := mvcc.PendingMay(p); e != want {
			t.Errorf("P10: with %d writes: %d", n, e)
		}
	}
}
