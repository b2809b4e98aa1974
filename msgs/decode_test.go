package msgs_test

import (
	"bytes"
	"math/rand"
	"slices"
	"strings"
	"testing"

	"headrace/api"
	"headrace/msgs"
	"headrace/recs"
	"headrace/wire"
)

// holdDecode holds Decode to a message.
func holdDecode(t *testing.T, b string, want api.Msg) {
	t.Helper()
	if m, e := msgs.Decode([]byte(b)); e != api.OK || text(m) != text(want) {
		t.Errorf("P12.3: Decode(%.100x) is %.500s, %d, not %.500s", b, text(m), e, text(want))
	}
}

// holdNoDecode holds Decode to having no message.
func holdNoDecode(t *testing.T, b string) {
	t.Helper()
	if m, e := msgs.Decode([]byte(b)); e != api.ErrForm || text(m) != text(api.Msg{}) {
		t.Errorf("P12.3: Decode(%.100x) is %.500s, %d", b, text(m), e)
	}
}

// holdAny holds Decode to the model, and tells whether there is a message.
func holdAny(t *testing.T, b []byte) bool {
	t.Helper()
	want, is := plainDecode(b)
	if is {
		holdDecode(t, string(b), want)
	} else {
		holdNoDecode(t, string(b))
	}
	return is
}

// holdNested holds Decode to whether a batch may have a record of these bytes.
func holdNested(t *testing.T, b []byte, is bool) {
	t.Helper()
	w := wire.NewWriter()
	for _, n := range []int{api.MBatch, 3, 22, 4, 9, 1} {
		w.Int(n)
	}
	w.Text(string(b))
	if _, e := msgs.Decode(w.Bytes()); (e == api.OK) != is {
		t.Errorf("P12.3: a batch with the record %.100x is %d", b, e)
	}
	if !is {
		holdNoDecode(t, string(w.Bytes()))
	}
}

// P12.3, P12.5

func TestDecodeOfEncode(t *testing.T) {
	for _, m := range right() {
		b, _ := msgs.Encode(m)
		holdDecode(t, string(b), m)
		again, e := msgs.Decode(b)
		if c, f := msgs.Encode(again); e != api.OK || f != api.OK || !bytes.Equal(b, c) {
			t.Errorf("P12.5: %x becomes %x, %d, %d", b, c, e, f)
		}
		for size := range b {
			holdNoDecode(t, string(b[:size]))
		}
		for _, more := range []string{"\x00", "\x01", "\x80", "\xff", string(b)} {
			holdNoDecode(t, string(b)+more)
		}
	}
}

func TestDecodeOfAllShortBytes(t *testing.T) {
	holdNoDecode(t, "")
	for a := range 256 {
		holdNoDecode(t, string([]byte{byte(a)}))
		for b := range 256 {
			holdNoDecode(t, string([]byte{byte(a), byte(b)}))
		}
	}
	hellos := 0
	for a := range 0x22 {
		for b := range 256 {
			for c := range 256 {
				m, e := msgs.Decode([]byte{byte(a), byte(b), byte(c)})
				if e == api.OK {
					hellos++
				}
				is := a == 2*api.MHello && b&1 == 0 && c&1 == 0 && plainNode(b/2) && plainNode(c/2)
				if (e == api.OK) != is || e == api.OK && text(m) != text(api.Msg{Kind: api.MHello, From: b / 2, To: c / 2}) {
					t.Errorf("P12.3: Decode(%02x %02x %02x) is %d, %v", a, b, c, e, m)
				}
			}
		}
	}
	// No other kind has so few bytes.
	if hellos != 16*16 {
		t.Errorf("P12.3: there are %d messages of three bytes", hellos)
	}
	tooks := 0
	for a := range 0x22 {
		for b := range 0x42 {
			for c := range 0x42 {
				if holdAny(t, []byte{byte(a), byte(b), 0x2c, byte(c)}) {
					tooks++
				}
			}
		}
	}
	if tooks != 16*12 {
		t.Errorf("P12.3: there are %d messages of four bytes to one node", tooks)
	}
}

func TestDecodeOfOtherKinds(t *testing.T) {
	for _, kind := range others() {
		w := wire.NewWriter()
		w.Int(kind)
		holdNoDecode(t, string(w.Bytes()))
		for more := range 12 {
			holdNoDecode(t, string(w.Bytes())+strings.Repeat("\x02", more))
		}
		for _, m := range full() {
			b, _ := msgs.Encode(m)
			holdNoDecode(t, string(w.Bytes())+string(b[1:]))
		}
	}
}

func TestDecodeOfChangedBytes(t *testing.T) {
	is := 0
	for _, m := range full() {
		b, _ := msgs.Encode(m)
		for i := range b {
			for c := range 256 {
				other := bytes.Clone(b)
				other[i] = byte(c)
				if holdAny(t, other) {
					is++
				}
			}
			for _, more := range []string{"\x00", "\x01", "\x02", "\x80", "\xff"} {
				holdAny(t, slices.Insert(bytes.Clone(b), i, []byte(more)...))
			}
			holdAny(t, slices.Delete(bytes.Clone(b), i, i+1))
			// A number that takes one byte more than it needs.
			other := bytes.Clone(b)
			other[i] |= 0x80
			holdAny(t, slices.Insert(other, i+1, 0))
		}
	}
	if is < 1000 {
		t.Errorf("too few messages: %d", is)
	}
}

func TestDecodeOfMessagesThatAreNotValid(t *testing.T) {
	refused := 0
	for _, m := range full() {
		for _, some := range changes() {
			for _, set := range some {
				other := m
				set(&other)
				if !holdAny(t, plainBytes(other)) {
					refused++
				}
			}
		}
	}
	if refused < 1000 {
		t.Errorf("too few messages are refused: %d", refused)
	}
}

func TestDecodeOfRecordsInBatches(t *testing.T) {
	for _, r := range records() {
		m := of(api.MBatch, func(m *api.Msg) { m.Recs = []api.Rec{r} })
		b, _ := msgs.Encode(m)
		holdDecode(t, string(b), m)
		// With a byte behind it, and cut off, it is no record.
		one, _ := recs.Encode(r)
		holdNested(t, one, true)
		holdNested(t, append(bytes.Clone(one), 0), false)
		holdNested(t, one[:len(one)-1], false)
	}
	for _, b := range []string{"", "\x0e", "\x8e\x00\x06", "\x0e\x1a", "\x1a\x06", "\x1a\x3e\x40"} {
		holdNested(t, []byte(b), false)
	}
}

func TestDecodeOfRandomBytes(t *testing.T) {
	r := rand.New(rand.NewSource(5))
	for range 100000 {
		b := make([]byte, r.Intn(40))
		for i := range b {
			b[i] = byte(r.Intn(256))
			if r.Intn(4) > 0 {
				b[i] &= 0x0e
			}
		}
		if len(b) > 3 {
			b[0], b[1], b[2] = byte(2*r.Intn(16)), byte(2*r.Intn(14)), byte(2*r.Intn(14))
		}
		holdAny(t, b)
	}
}

func TestDecodeOfManyBytes(t *testing.T) {
	for _, size := range []int{1 << 18, 1<<22 - 1, 1 << 22, 1<<22 + 1} {
		for _, c := range []byte{0, 2, 0x80, 0xff} {
			for _, kind := range []byte{api.MRead, api.MPrepare, api.MHand, api.MHello} {
				b := bytes.Repeat([]byte{c}, size)
				b[0], b[1], b[2] = 2*kind, 2, 2
				holdNoDecode(t, string(b))
			}
		}
	}
}

// Lists whose numbers are greater than what is there.
func TestDecodeOfLongLists(t *testing.T) {
	head := "\x02\x06\x2c\x04\x06\x08\x08\x12\x0a\x0c\x0e"
	for rest, is := range map[string]bool{
		"\x00": false, "\x01": false, "\x02": false, "\x02\x02a": true, "\x04\x02a": false, "\x03\x02a": false, "\x02\x00": false, "\x02\x01": false, "\x02\x04a": false, "\x82\x00\x02a": false,
		"\xfe\xff\xff\xff\xff\xff\xff\xff\xff\x01\x02a": false, "\x02\xfe\xff\xff\xff\xff\xff\xff\xff\xff\x01a": false, "\x04\x02a\x02a": false, "\x04\x02a\x02b": true, "\x04\x02b\x02a": false,
	} {
		if holdAny(t, []byte(head+rest)) != is {
			t.Errorf("P12.3: the model is %t for %x", !is, rest)
		}
	}
}
