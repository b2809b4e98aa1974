package msgs_test

import (
	"bytes"
	"fmt"
	"strings"
	"testing"

	"headrace/api"
	"headrace/msgs"
	"headrace/recs"
)

func TestExamples(t *testing.T) {
	for want, m := range map[string]api.Msg{"\x1a\x3e\x40": {Kind: api.MHello, From: 31, To: 32}, "\x16\x04\x02\x04": {Kind: api.MTook, From: 2, To: 1, Range: 2}} {
		if b, e := msgs.Encode(m); string(b) != want || e != api.OK {
			t.Errorf("P12.2: Encode(%v) is %x, %d", m, b, e)
		}
		holdDecode(t, want, m)
	}
	holdMay(t, api.Msg{Kind: api.MHello, From: 31, To: 33}, api.ErrForm)
	holdMay(t, api.Msg{Kind: api.MHello, From: 31, To: 32, N: 1}, api.ErrForm)
	holdMay(t, api.Msg{Kind: 15}, api.ErrKind)
	holdNoDecode(t, "\x1a\x3e")
}

// P12.2

func TestEncodeOfEachKind(t *testing.T) {
	x, at := "\x04\x06\x08", "\x0a\x0c\x0e"
	nan, quarter, half, one := "\x00\x00\x00\x00\x00\x00\xf8\x7f", "\x00\x00\x00\x00\x00\x00\xd0\x3f", "\x00\x00\x00\x00\x00\x00\xe0\x3f", "\x00\x00\x00\x00\x00\x00\xf0\x3f"
	seen := "\x06" + "\x02a\x02" + nan + "\x06\x00\x02" + "\x02b\x00\x00\x00\x00" + "\x02c\x00\x08\x04\x12"
	writes := "\x06\x02a\x02\x00\x00\x00\x00\x00\x00\xf0\xbf\x02b\x00\x02c\x04\x06xyz"
	ranges := "\x04" + "\x08\x06" + quarter + half + "\x12\x00" + half + one
	state := "\x08\x04" + strings.Repeat("\x00", 8) + one + "\x0e\x04\x06" + "\x08\x02\x04" +
		"\x04" + "\x02a" + "\x04" + "\x02\x00\x02\x04\x02x" + "\x0c\x00\x02\x00" + "\x02c" + "\x02" + "\x06\x00\x02\x02\x00\x00\x00\x00\x00\x00\x00\x80" +
		"\x04" + "\x02\x02\x04" + "\x12\x00\x02" + "\x04\x02a\x02b" + "\x04\x02a\x02" + nan + "\x02d\x00" + "\x02\x02\x02" + "\x10\x00\x02" + "\x02\x02b\x00"
	want := []string{
		"\x02\x06\x2c" + x + "\x08\x12" + at + "\x04\x02a\x04xy", "\x04\x06\x2c" + x + "\x08\x00" + at + seen + "\x00", "\x04\x06\x2c" + x + "\x08\x2a" + at + "\x00" + ranges, "\x06\x06\x2c" + x + "\x08\x12" + at + seen + writes + "\x06\x04\x08\x18",
		"\x08\x06\x2c" + x + "\x08\x00" + at + "\x00", "\x08\x06\x2c" + x + "\x08\x2a" + at + ranges, "\x0a\x06\x2c" + x + "\x08\x01" + at, "\x0a\x06\x2c" + x + "\x08\x00\x00\x00\x00", "\x0c\x06\x2c" + x + "\x08", "\x0e\x06\x2c" + x + "\x08",
		"\x10\x06\x2c\x08\x12\x06" + at, "\x12\x06\x2c\x08\x12" + "\x04\x04\x0e\x06\x08\x14" + x, "\x14\x06\x2c\x08" + state, "\x16\x06\x2c\x08", "\x18\x06\x2c" + "\x0a\x0c\x0c" + at + x + writes, "\x1a\x06\x2c", "\x1c\x06\x2c" + at,
	}
	for i, m := range full() {
		if b, e := msgs.Encode(m); string(b) != want[i] || e != api.OK {
			t.Errorf("P12.2: message %d is written as %x, %d, not %x", i, b, e, want[i])
		}
		holdDecode(t, want[i], m)
	}
}

func TestEncodeToAModel(t *testing.T) {
	was := map[string]string{}
	for _, m := range right() {
		b, e := msgs.Encode(m)
		if e != api.OK || !bytes.Equal(b, plainBytes(m)) {
			t.Errorf("P12.2: %.500s is written as %x, %d", text(m), b, e)
		}
		if before, has := was[string(b)]; has && before != text(m) {
			t.Errorf("P12.2: %x is written for %.500s and for %.500s", b, before, text(m))
		}
		was[string(b)] = text(m)
	}
	if len(was) < 500 {
		t.Errorf("too few messages: %d", len(was))
	}
}

// sizedRec is a valid record of so many bytes, between 261006 and 319506: 4500 pairs of 58 to 71 bytes, and six bytes.
func sizedRec(size int) api.Rec {
	r := api.Rec{Kind: api.RBase}
	more := size - 6 - 4500*58
	for i := range 4500 {
		add := min(more, 13)
		more -= add
		r.Pairs = append(r.Pairs, api.Pair{Key: fmt.Sprintf("k%04d", i), Value: words(strings.Repeat("t", 50+add))})
	}
	return r
}

// sized is a valid message of so many bytes, from 2^22 - 20000 on: a state of histories, which are made longer until it
// has them.
func sized(size int) api.Msg {
	m := api.Msg{Kind: api.MHand, From: 1, To: 4, Range: 4, State: api.State{Range: api.Range{ID: 4, Hi: 1}}}
	for i := range 65000 {
		m.State.Histories = append(m.State.Histories, api.History{Key: fmt.Sprintf("k%05d", i), Versions: []api.Version{{Stamp: moment(1), Value: words(strings.Repeat("t", 50))}}})
	}
	more := size - len(plainBytes(m))
	for i := 0; more > 0; i++ {
		add := min(more, 13)
		more -= add
		m.State.Histories[i].Versions[0].Value.Text += strings.Repeat("t", add)
	}
	return m
}

func TestEncodeOfLongMessages(t *testing.T) {
	const most = 1 << 22
	for size := most - 1; size <= most; size++ {
		m := sized(size)
		b, e := msgs.Encode(m)
		if e != api.OK || len(b) != size || !bytes.Equal(b, plainBytes(m)) {
			t.Fatalf("P12.2: of %d bytes: %d, %d", size, len(b), e)
		}
		holdDecode(t, string(b), m)
		holdNoDecode(t, string(b[:size-1]))
		holdNoDecode(t, string(b)+"\x00")
	}
	for _, size := range []int{most + 1, most + 2, most + 50000} {
		m := sized(size)
		if e := msgs.May(m); e != api.OK {
			t.Errorf("P12.1: a message of %d bytes: %d", size, e)
		}
		if b, e := msgs.Encode(m); e != api.ErrLong || len(b) != 0 {
			t.Errorf("P12.2: of %d bytes: %d, %d", size, len(b), e)
		}
		b := plainBytes(m)
		if len(b) != size {
			t.Errorf("a message has %d bytes, not %d", len(b), size)
		}
		holdNoDecode(t, string(b))
		// What is not valid is told ahead of what is long.
		m.State.Closed.Node = 64
		if b, e := msgs.Encode(m); e != api.ErrForm || len(b) != 0 {
			t.Errorf("P12.2: of %d bytes that are not valid: %d, %d", size, len(b), e)
		}
		m.Kind = 15
		if b, e := msgs.Encode(m); e != api.ErrKind || len(b) != 0 {
			t.Errorf("P12.2: of %d bytes of no kind: %d, %d", size, len(b), e)
		}
	}
}

func TestEncodeOfLongRecords(t *testing.T) {
	m := of(api.MBatch)
	m.Recs = nil
	for i := range 8 {
		m.Recs = append(m.Recs, sizedRec(1<<18-i))
		b, e := msgs.Encode(m)
		if e != api.OK || !bytes.Equal(b, plainBytes(m)) {
			t.Fatalf("P12.2: with %d long records: %d, %d", i+1, len(b), e)
		}
		holdDecode(t, string(b), m)
	}
	// A record as bytes that no record has.
	long := sizedRec(1<<18 + 1)
	if _, e := recs.Encode(long); e != api.ErrLong {
		t.Errorf("P11.2: a long record: %d", e)
	}
	for size, is := range map[int]bool{1 << 18: true, 1<<18 + 1: false} {
		b, _ := recs.Encode(sizedRec(1 << 18))
		holdNested(t, append(b, make([]byte, size-1<<18)...), is)
	}
}
