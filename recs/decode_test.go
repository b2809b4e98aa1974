package recs_test

import (
	"bytes"
	"math/rand"
	"slices"
	"strings"
	"testing"

	"headrace/api"
	"headrace/recs"
	"headrace/wire"
)

// holdDecode holds Decode to a record.
func holdDecode(t *testing.T, b string, want api.Rec) {
	t.Helper()
	if r, e := recs.Decode([]byte(b)); e != api.OK || text(r) != text(want) {
		t.Errorf("P11.3: Decode(%.100x) is %.500s, %d, not %.500s", b, text(r), e, text(want))
	}
}

// holdNoDecode holds Decode to having no record.
func holdNoDecode(t *testing.T, b string) {
	t.Helper()
	if r, e := recs.Decode([]byte(b)); e != api.ErrForm || text(r) != text(api.Rec{}) {
		t.Errorf("P11.3: Decode(%.100x) is %.500s, %d", b, text(r), e)
	}
}

// holdAny holds Decode to the model, and tells whether there is a record.
func holdAny(t *testing.T, b []byte) bool {
	t.Helper()
	want, is := plainDecode(b)
	if is {
		holdDecode(t, string(b), want)
	} else {
		holdNoDecode(t, string(b))
	}
	return is
}

// P11.3, P11.5

func TestDecodeOfEncode(t *testing.T) {
	for _, r := range right() {
		b, _ := recs.Encode(r)
		holdDecode(t, string(b), r)
		again, e := recs.Decode(b)
		if c, f := recs.Encode(again); e != api.OK || f != api.OK || !bytes.Equal(b, c) {
			t.Errorf("P11.5: %x becomes %x, %d, %d", b, c, e, f)
		}
		for size := range b {
			holdNoDecode(t, string(b[:size]))
		}
		for _, more := range []string{"\x00", "\x01", "\x80", "\xff", string(b)} {
			holdNoDecode(t, string(b)+more)
		}
	}
}

func TestDecodeOfAllShortBytes(t *testing.T) {
	holdNoDecode(t, "")
	for a := range 256 {
		holdAny(t, []byte{byte(a)})
		for b := range 256 {
			holdAny(t, []byte{byte(a), byte(b)})
		}
	}
	records := 0
	for a := range 0x1c {
		for b := range 256 {
			for c := range 256 {
				_, e := recs.Decode([]byte{byte(a), byte(b), byte(c)})
				// An even number of two bytes is not negative.
				if is := (a == 2*api.RCeil || a == 2*api.RBoot) && b >= 0x80 && b&1 == 0 && c > 0 && c < 0x80; (e == api.OK) != is {
					t.Errorf("P11.3: Decode(%02x %02x %02x) is %d", a, b, c, e)
				}
				if e == api.OK {
					records++
				}
			}
		}
	}
	// An RCeil or an RBoot of 64 to 8191; no other record has three bytes.
	if records != 2*(8192-64) {
		t.Errorf("P11.3: there are %d records of three bytes", records)
	}
}

func TestDecodeOfOtherKinds(t *testing.T) {
	for _, kind := range others() {
		w := wire.NewWriter()
		w.Int(kind)
		for more := range 12 {
			holdNoDecode(t, string(w.Bytes())+strings.Repeat("\x02", more))
		}
		for known := 1; known <= 12; known++ {
			b, _ := recs.Encode(full(known))
			holdNoDecode(t, string(w.Bytes())+string(b[1:]))
		}
	}
}

func TestDecodeOfChangedBytes(t *testing.T) {
	is := 0
	for kind := 1; kind <= 12; kind++ {
		b, _ := recs.Encode(full(kind))
		for i := range b {
			for c := range 256 {
				other := bytes.Clone(b)
				other[i] = byte(c)
				if holdAny(t, other) {
					is++
				}
			}
			for _, more := range []string{"\x00", "\x01", "\x02", "\x80", "\xff"} {
				holdAny(t, slices.Insert(bytes.Clone(b), i, []byte(more)...))
			}
			holdAny(t, slices.Delete(bytes.Clone(b), i, i+1))
			// A number that takes one byte more than it needs.
			other := bytes.Clone(b)
			other[i] |= 0x80
			holdAny(t, slices.Insert(other, i+1, 0))
		}
	}
	if is < 1000 {
		t.Errorf("too few records: %d", is)
	}
}

func TestDecodeOfRecordsThatAreNotValid(t *testing.T) {
	refused := 0
	for kind := 1; kind <= 12; kind++ {
		for _, some := range changes() {
			for _, set := range some {
				r := full(kind)
				set(&r)
				if holdAny(t, plainBytes(r)) {
					continue
				}
				refused++
			}
		}
	}
	if refused < 300 {
		t.Errorf("too few records are refused: %d", refused)
	}
}

func TestDecodeOfRandomBytes(t *testing.T) {
	r := rand.New(rand.NewSource(5))
	for range 100000 {
		b := make([]byte, r.Intn(40))
		for i := range b {
			b[i] = byte(r.Intn(256))
			if r.Intn(4) > 0 {
				b[i] &= 0x0e
			}
		}
		if len(b) > 0 {
			b[0] = byte(2 * r.Intn(14))
		}
		holdAny(t, b)
	}
}

func TestDecodeOfManyBytes(t *testing.T) {
	for _, size := range []int{1 << 18, 1<<18 + 1, 1 << 20} {
		for _, c := range []byte{0, 2, 6, 0x18, 0x80, 0xff} {
			b := bytes.Repeat([]byte{c}, size)
			holdNoDecode(t, string(b))
			b[0] = 2 * api.RPrepare
			holdNoDecode(t, string(b))
		}
	}
}

// GetState

// holdGetState holds GetState to the model: the State, the place, and the fault.
func holdGetState(t *testing.T, b []byte) {
	t.Helper()
	r, plain := wire.NewReader(b), wire.NewReader(b)
	got, want := recs.GetState(r), plainGetState(plain)
	e, at := r.Fault()
	f, there := plain.Fault()
	if text(got) != text(want) || e != f || at != there || r.Place() != plain.Place() {
		t.Errorf("P11.3: GetState(%.200x) is %.500s, %d at %d, place %d; not %.500s, %d at %d, place %d", b, text(got), e, at, r.Place(), text(want), f, there, plain.Place())
	}
}

func TestGetStateOfPutState(t *testing.T) {
	for i, s := range oddStates() {
		b := stateBytes(s)
		w := wire.NewWriter()
		w.Int(7)
		recs.PutState(w, s)
		w.Int(8)
		r := wire.NewReader(w.Bytes())
		r.Int()
		got := recs.GetState(r)
		if !bytes.Equal(stateBytes(got), b) || r.Place() != 1+len(b) || r.Int() != 8 {
			t.Errorf("P11.3: state %d becomes %.500s, place %d", i, text(got), r.Place())
		}
		if e, _ := r.End(); e != api.OK {
			t.Errorf("P11.3: after state %d the end is %d", i, e)
		}
		holdGetState(t, b)
		if recs.StateMay(s) && text(got) != text(s) {
			t.Errorf("P11.5: %.500s becomes %.500s", text(s), text(got))
		}
	}
}

func TestGetStateOfChangedBytes(t *testing.T) {
	for _, s := range []api.State{fullState(), oddStates()[len(oddStates())-1]} {
		b := stateBytes(s)
		for i := range b {
			holdGetState(t, b[:i])
			holdGetState(t, slices.Delete(bytes.Clone(b), i, i+1))
			for c := range 256 {
				other := bytes.Clone(b)
				other[i] = byte(c)
				holdGetState(t, other)
			}
		}
	}
}

func TestGetStateWithAFault(t *testing.T) {
	for _, e := range []api.Errno{api.ErrKind, api.ErrShort} {
		r := wire.NewReader(append([]byte{2}, stateBytes(fullState())...))
		r.Int()
		r.Fail(e)
		if s := recs.GetState(r); text(s) != text(api.State{}) {
			t.Errorf("P11.3: GetState of a Reader with a fault is %v", s)
		}
		if f, at := r.Fault(); f != e || at != 1 || r.Place() != 1 {
			t.Errorf("P11.3: the fault becomes %d at %d, place %d", f, at, r.Place())
		}
	}
}

func TestGetStateOfLongLists(t *testing.T) {
	// Before the number of the histories stand 24 bytes: two numbers, two floats, two stamps. One byte is left for each.
	head := string(stateBytes(fullState())[:24])
	for _, c := range []struct {
		rest  string
		e     api.Errno
		place int
	}{
		{"\x00\x00", api.OK, 0}, {"\x01", api.ErrForm, 24}, {"\x00\x01", api.ErrForm, 25}, {"\x02", api.ErrShort, 25}, {"\x04", api.ErrMany, 24}, {"\x04\x00", api.ErrShort, 26}, {"\x06\x00", api.ErrMany, 24}, {"\x00\x02", api.ErrShort, 26}, {"\x00\x04", api.ErrMany, 25},
		{"\xfe\xff\xff\xff\xff\xff\xff\xff\xff\x01", api.ErrMany, 24}, {"\x02\x00\x04", api.ErrMany, 26}, {"\x02\x00\x02", api.ErrShort, 27}, {"\x00\x02\x00\x00\x00\x00\x00\x00\x04", api.ErrMany, 32}, {"\x00\x02\x00\x00\x00\x00\x00\x00\x00\x04", api.ErrMany, 33},
	} {
		r := wire.NewReader([]byte(head + c.rest))
		s := recs.GetState(r)
		if e, at := r.Fault(); e != c.e || at != c.place || (e != api.OK && text(s) != text(api.State{})) {
			t.Errorf("P11.3: with %x there is %d at %d, not %d at %d", c.rest, e, at, c.e, c.place)
		}
	}
}

func TestGetStateOfLongTexts(t *testing.T) {
	for size, e := range map[int]api.Errno{1 << 18: api.OK, 1<<18 + 1: api.ErrLong} {
		key := strings.Repeat("k", size)
		for _, s := range []api.State{{Histories: []api.History{{Key: key}}}, {Pending: []api.Pending{{Reads: []string{key}}}}, {Pending: []api.Pending{{Writes: []api.Write{{Key: key}}}}}} {
			r := wire.NewReader(stateBytes(s))
			got := recs.GetState(r)
			if f, _ := r.Fault(); f != e || e == api.OK && text(got) != text(s) {
				t.Errorf("P11.3: with a key of %d bytes there is %d, not %d", size, f, e)
			}
			holdGetState(t, stateBytes(s))
		}
	}
	head := string(stateBytes(fullState())[:24]) + "\x02\x00\x02\x00\x00\x00\x04"
	for size, e := range map[int]api.Errno{64: api.OK, 65: api.ErrLong} {
		w := wire.NewWriter()
		w.Text(strings.Repeat("t", size))
		r := wire.NewReader([]byte(head + string(w.Bytes()) + "\x00"))
		recs.GetState(r)
		if f, _ := r.End(); f != e {
			t.Errorf("P11.3: with a text of %d bytes there is %d, not %d", size, f, e)
		}
	}
}

// P11.4

// spare lays something behind the end of a list, within its room.
func spare[T any](l []T, x T) []T {
	room := append(slices.Clone(l), x)
	return room[:len(l)]
}

// roomy is a record of which each list has room behind its end.
func roomy(r api.Rec) api.Rec {
	r.Reads, r.Writes, r.Parts, r.Pairs = spare(r.Reads, "~"), spare(r.Writes, api.Write{Key: "~"}), spare(r.Parts, 99), spare(r.Pairs, api.Pair{Key: "~"})
	r.State.Histories, r.State.Pending = spare(r.State.Histories, api.History{Key: "~"}), spare(r.State.Pending, api.Pending{})
	for i, h := range r.State.Histories {
		r.State.Histories[i].Versions = spare(h.Versions, api.Version{Stamp: moment(99)})
	}
	for i, p := range r.State.Pending {
		r.State.Pending[i].Reads, r.State.Pending[i].Writes = spare(p.Reads, "~"), spare(p.Writes, api.Write{Key: "~"})
	}
	return r
}

// room shows all lists of a record up to the end of their room.
func room(r api.Rec) string {
	all := text(r) + text(r.Reads[:cap(r.Reads)]) + text(r.Writes[:cap(r.Writes)]) + text(r.Parts[:cap(r.Parts)]) + text(r.Pairs[:cap(r.Pairs)])
	all += text(r.State.Histories[:cap(r.State.Histories)]) + text(r.State.Pending[:cap(r.State.Pending)])
	for _, h := range r.State.Histories {
		all += text(h.Versions[:cap(h.Versions)])
	}
	for _, p := range r.State.Pending {
		all += text(p.Reads[:cap(p.Reads)]) + text(p.Writes[:cap(p.Writes)])
	}
	return all
}

func TestArgumentsStayAsTheyAre(t *testing.T) {
	for kind := 1; kind <= 12; kind++ {
		r := roomy(full(kind))
		before := room(r)
		recs.May(r)
		b, _ := recs.Encode(r)
		recs.StateMay(r.State)
		recs.PutState(wire.NewWriter(), r.State)
		recs.Parts(r.Parts)
		if room(r) != before {
			t.Errorf("P11.4: %s becomes %s", before, room(r))
		}
		held := spare(b, 7)
		copied := bytes.Clone(held[:cap(held)])
		recs.Decode(held)
		if !bytes.Equal(held[:cap(held)], copied) {
			t.Errorf("P11.4: Decode changes %x to %x", copied, held[:cap(held)])
		}
	}
}

// overwrite writes into all lists of a record, and behind their ends.
func overwrite(r api.Rec) {
	for i, h := range r.State.Histories {
		fill(h.Versions, api.Version{Stamp: moment(i)})
	}
	for _, p := range r.State.Pending {
		fill(p.Reads, "~")
		fill(p.Writes, api.Write{Key: "~"})
	}
	fill(r.Reads, "~")
	fill(r.Writes, api.Write{Key: "~"})
	fill(r.Parts, 99)
	fill(r.Pairs, api.Pair{Key: "~"})
	fill(r.State.Histories, api.History{Key: "~"})
	fill(r.State.Pending, api.Pending{Txn: numbered(99)})
}

// fill sets all elements of a list, up to the end of its room.
func fill[T any](l []T, x T) {
	l = l[:cap(l)]
	for i := range l {
		l[i] = x
	}
}

func TestResultsAreNewMemory(t *testing.T) {
	for kind := 1; kind <= 12; kind++ {
		want := full(kind)
		b, _ := recs.Encode(want)
		kept := string(b)
		one, _ := recs.Decode(b)
		two, _ := recs.Decode(b)
		overwrite(one)
		fill(b, 0xee)
		if text(two) != text(want) {
			t.Errorf("P11.4: a record becomes %s", text(two))
		}
		if again, _ := recs.Encode(want); string(again) != kept {
			t.Errorf("P11.4: the bytes become %x", again)
		}
	}
}

func TestListsOfARecordAreApart(t *testing.T) {
	b, _ := recs.Encode(full(api.RBirth))
	r, _ := recs.Decode(b)
	for i := range r.State.Histories {
		one, _ := recs.Decode(b)
		fill(one.State.Histories[i].Versions, api.Version{Stamp: moment(99)})
		for k := range one.State.Histories {
			if k != i && text(one.State.Histories[k]) != text(r.State.Histories[k]) {
				t.Errorf("P11.4: histories %d and %d share memory", i, k)
			}
		}
	}
	for i := range r.State.Pending {
		one, _ := recs.Decode(b)
		fill(one.State.Pending[i].Reads, "~")
		if text(one.State.Pending[i].Writes) != text(r.State.Pending[i].Writes) || text(one.State.Pending[1-i]) != text(r.State.Pending[1-i]) {
			t.Errorf("P11.4: what pending transactions read and write shares memory")
		}
	}
}
