package recs_test

import (
	"bytes"
	"fmt"
	"math"
	"reflect"
	"strings"
	"testing"

	"headrace/api"
	"headrace/recs"
	"headrace/wire"
)

// right lists valid records: the full ones, and those with one thing changed.
func right() []api.Rec {
	var l []api.Rec
	for kind := 1; kind <= 12; kind++ {
		l = append(l, full(kind))
		for _, some := range changes() {
			for _, set := range some {
				r := full(kind)
				set(&r)
				if plainMay(r) == api.OK && text(r) != text(l[len(l)-1]) {
					l = append(l, r)
				}
			}
		}
	}
	return append(l, api.Rec{Kind: api.RDecide, Txn: numbered(1)})
}

func TestExamples(t *testing.T) {
	for want, r := range map[string]api.Rec{"\x0e\x06": {Kind: api.RTook, N: 3}, "\x14\x02\x04\x06": {Kind: api.REnd, Txn: api.Txn{Coord: 1, Life: 2, Seq: 3}}} {
		if b, e := recs.Encode(r); string(b) != want || e != api.OK {
			t.Errorf("P11.2: Encode(%v) is %x, %d", r, b, e)
		}
	}
	holdMay(t, api.Rec{Kind: api.RDecide, Txn: numbered(1), Stamp: moment(5)}, api.ErrForm)
	holdMay(t, api.Rec{Kind: api.RTook, N: 3, Point: minusZero}, api.ErrForm)
	holdMay(t, api.Rec{Kind: 99}, api.ErrKind)
	holdDecode(t, "\x0e\x06", api.Rec{Kind: api.RTook, N: 3})
	holdNoDecode(t, "\x0e\x06\x00")
	holdNoDecode(t, "\x8e\x00\x06")
}

// P11.2

func TestEncodeOfEachKind(t *testing.T) {
	x, at := "\x04\x06\x08", "\x0a\x0c\x0e"
	nan, writes := "\x00\x00\x00\x00\x00\x00\xf8\x7f", "\x06\x02a\x02\x00\x00\x00\x00\x00\x00\xf8\x7f\x02b\x00\x02c\x04\x06xyz"
	l := lowKeys()
	state := "\x06\x04" + strings.Repeat("\x00", 8) + "\x00\x00\x00\x00\x00\x00\xe0\x3f" + "\x0e\x04\x06" + "\x08\x02\x04" +
		"\x04" + "\x02" + l[0] + "\x04" + "\x02\x00\x02\x04\x02x" + "\x0c\x00\x02\x00" + "\x02" + l[2] + "\x02" + "\x06\x00\x02\x02\x00\x00\x00\x00\x00\x00\x00\x80" +
		"\x04" + "\x02\x02\x04" + "\x12\x00\x02" + "\x04\x02" + l[0] + "\x02" + l[1] + "\x04\x02" + l[0] + "\x02" + nan + "\x02" + l[3] + "\x00" + "\x02\x02\x02" + "\x10\x00\x02" + "\x02\x02" + l[1] + "\x00"
	for kind, want := range map[int]string{
		api.RBirth: "\x02" + state, api.RCeil: "\x04\x12", api.RPrepare: "\x06" + x + at + "\x04\x02a\x02x" + writes + "\x04\x04\x18", api.RDecide: "\x08" + x + "\x01" + at, api.RClose: "\x0a" + at,
		api.RSplit: "\x0c" + "\x00\x00\x00\x00\x00\x00\xd0\x3f" + "\x12" + at, api.RTook: "\x0e\x12", api.RBoot: "\x10\x12", api.RCommit: "\x12" + x + at + "\x06\x04\x06\x18", api.REnd: "\x14" + x,
		api.RApply: "\x16" + "\x0a\x0c\x0c" + at + x + writes, api.RBase: "\x18" + at + "\x04\x02a\x02\x00\x00\x00\x00\x00\x00\xf0\xbf\x02b\x04\x06xyz",
	} {
		if b, e := recs.Encode(full(kind)); string(b) != want || e != api.OK {
			t.Errorf("P11.2: kind %d is written as %x, %d, not %x", kind, b, e, want)
		}
	}
}

func TestEncodeToAModel(t *testing.T) {
	seen := map[string]string{}
	for _, r := range right() {
		b, e := recs.Encode(r)
		if e != api.OK || !bytes.Equal(b, plainBytes(r)) {
			t.Errorf("P11.2: %.500s is written as %x, %d", text(r), b, e)
		}
		if before, has := seen[string(b)]; has && before != text(r) {
			t.Errorf("P11.2: %x is written for %.500s and for %.500s", b, before, text(r))
		}
		seen[string(b)] = text(r)
	}
	if len(seen) < 300 {
		t.Errorf("too few records: %d", len(seen))
	}
}

// sized is a valid record of so many bytes, between 261006 and 319506: 4500 pairs of 58 to 71 bytes, and six bytes.
func sized(size int) api.Rec {
	r := api.Rec{Kind: api.RBase}
	more := size - 6 - 4500*58
	for i := range 4500 {
		add := min(more, 13)
		more -= add
		r.Pairs = append(r.Pairs, api.Pair{Key: fmt.Sprintf("k%04d", i), Value: words(strings.Repeat("t", 50+add))})
	}
	return r
}

func TestEncodeOfLongRecords(t *testing.T) {
	const most = 1 << 18
	for size := most - 3; size <= most; size++ {
		r := sized(size)
		b, e := recs.Encode(r)
		if e != api.OK || len(b) != size || !bytes.Equal(b, plainBytes(r)) {
			t.Fatalf("P11.2: of %d bytes: %d, %d", size, len(b), e)
		}
		holdDecode(t, string(b), r)
	}
	for _, size := range []int{most + 1, most + 2, most + 50000} {
		r := sized(size)
		if e := recs.May(r); e != api.OK {
			t.Errorf("P11.1: a record of %d bytes: %d", size, e)
		}
		if b, e := recs.Encode(r); e != api.ErrLong || len(b) != 0 {
			t.Errorf("P11.2: of %d bytes: %d, %d", size, len(b), e)
		}
		holdNoDecode(t, string(plainBytes(r)))
		// What is not valid is told ahead of what is long.
		r.Pairs[4499].Value = api.Value{}
		if b, e := recs.Encode(r); e != api.ErrForm || len(b) != 0 {
			t.Errorf("P11.2: of %d bytes that are not valid: %d, %d", size, len(b), e)
		}
	}
	s := api.Rec{Kind: api.RBirth, State: api.State{Range: api.Range{ID: 1, Hi: 1}}}
	for _, p := range sized(most + 1).Pairs {
		s.State.Histories = append(s.State.Histories, api.History{Key: p.Key, Versions: []api.Version{{Stamp: moment(1), Value: p.Value}}})
	}
	if b, e := recs.Encode(s); e != api.ErrLong || len(b) != 0 || recs.May(s) != api.OK {
		t.Errorf("P11.2: a long state: %d, %d", len(b), e)
	}
}

// oddStates lists states of which StateMay need not tell anything good.
func oddStates() []api.State {
	l := append(append(goodStates(), badStates()...), almostZero()...)
	n := []int{math.MinInt, -1, 0, 1, 63, 64, math.MaxInt}
	for i := range n {
		some := func(k int) int { return n[(i+k)%len(n)] }
		l = append(l, api.State{
			Range: api.Range{ID: some(0), Epoch: some(1), Lo: math.Inf(1), Hi: minusZero}, Floor: api.Stamp{Wall: some(1), Logical: some(2), Node: some(3)}, Closed: api.Stamp{Wall: some(3), Logical: some(5), Node: some(6)},
			Histories: []api.History{{Key: strings.Repeat("k", 99), Versions: []api.Version{{Stamp: api.Stamp{Wall: some(4)}}, {Value: number(1)}, {}}}, {}, {Key: "a"}, {Key: "a"}},
			Pending:   []api.Pending{{}, {Txn: api.Txn{Coord: some(3), Life: some(1), Seq: some(2)}, Reads: []string{"b", "", "a"}, Writes: []api.Write{{}, {Key: "", Value: words("x")}, {}}}, {Stamp: api.Stamp{Node: some(0)}}},
		})
	}
	return l
}

// stateBytes is what PutState writes.
func stateBytes(s api.State) []byte {
	w := wire.NewWriter()
	recs.PutState(w, s)
	return w.Bytes()
}

func TestPutStateToAModel(t *testing.T) {
	for i, s := range oddStates() {
		w := wire.NewWriter()
		plainPut(w, reflect.ValueOf(s))
		if got := stateBytes(s); !bytes.Equal(got, w.Bytes()) {
			t.Errorf("P11.2: state %d is written as %x, not %x", i, got, w.Bytes())
		}
	}
}

func TestPutStateAppends(t *testing.T) {
	w := wire.NewWriter()
	w.Text("before")
	recs.PutState(w, fullState())
	recs.PutState(w, api.State{})
	w.Int(7)
	if want := "\x0cbefore" + string(stateBytes(fullState())) + strings.Repeat("\x00", 26) + "\x0e"; string(w.Bytes()) != want {
		t.Errorf("P11.2: %x, not %x", w.Bytes(), want)
	}
}
