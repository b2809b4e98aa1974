package datum_test

import (
	"bytes"
	"encoding/binary"
	"math"
	"strings"
	"testing"

	"headrace/api"
	"headrace/datum"
	"headrace/wire"
)

// put returns the bytes of a value.
func put(v api.Value) []byte {
	w := wire.NewWriter()
	datum.Put(w, v)
	return w.Bytes()
}

// wantedBytes works out the bytes of a valid value, by the words of P2.1 and P3.4.
func wantedBytes(v api.Value) []byte {
	b := []byte{byte(2 * v.Kind)}
	switch v.Kind {
	case api.Num:
		return binary.LittleEndian.AppendUint64(b, math.Float64bits(v.Num))
	case api.Text:
		if size := 2 * len(v.Text); size < 0x80 {
			b = append(b, byte(size))
		} else {
			b = append(b, byte(size)|0x80, byte(size>>7))
		}
	}
	return append(b, v.Text...)
}

func TestPut(t *testing.T) {
	for _, v := range ascending() {
		if got, want := put(v), wantedBytes(v); !bytes.Equal(got, want) {
			t.Errorf("P3.4: Put(%s) writes %x, not %x", show(v), got, want)
		}
	}
	for _, v := range invalid() {
		if got := put(v); !bytes.Equal(got, []byte{0}) {
			t.Errorf("P3.4: Put(%s) writes %x, not 00", show(v), got)
		}
	}
	for want, v := range map[string]api.Value{
		"\x00":                                   {},
		"\x04\x04ab":                             datum.Words("ab"),
		"\x04\x00":                               datum.Words(""),
		"\x04\x80\x01" + strings.Repeat("x", 64): datum.Words(strings.Repeat("x", 64)),
		"\x02\x00\x00\x00\x00\x00\x00\xf8\x7f":   datum.Number(math.NaN()),
		"\x02\x00\x00\x00\x00\x00\x00\x00\x80":   datum.Number(math.Copysign(0, -1)),
	} {
		if got := string(put(v)); got != want {
			t.Errorf("P3.4: Put(%s) writes %x, not %x", show(v), got, want)
		}
	}
}

func TestPutAppends(t *testing.T) {
	w := wire.NewWriter()
	w.Text("before")
	want := w.Bytes()
	for _, v := range append(ascending(), invalid()...) {
		datum.Put(w, v)
		if datum.May(v) {
			want = append(want, wantedBytes(v)...)
		} else {
			want = append(want, 0)
		}
	}
	if got := w.Bytes(); !bytes.Equal(got, want) {
		t.Errorf("P3.4: %x is written, not %x", got, want)
	}
}

// hold reads a value at the place of all, and holds it to what the reads do that P3.4 names.
func hold(t *testing.T, all []byte, place int) {
	t.Helper()
	r, twin := wire.NewReader(all), wire.NewReader(all)
	for range place {
		r.Flag()
		twin.Flag()
	}
	want := api.Value{Kind: twin.Choice(2)}
	if want.Kind == 1 {
		want.Num = twin.Float()
	}
	if want.Kind == 2 {
		want.Text = twin.Text(64)
	}
	e, at := twin.Fault()
	if e != api.OK {
		want = api.Value{}
	}
	got := datum.Get(r)
	f, k := r.Fault()
	if !exact(got, want) || f != e || k != at || r.Place() != twin.Place() || r.Left() != twin.Left() {
		t.Fatalf("P3.4: Get of %x at %d: %s, fault %d at %d, place %d, not %s, %d at %d, %d", all, place, show(got), f, k, r.Place(), show(want), e, at, twin.Place())
	}
	if !datum.May(got) {
		t.Fatalf("P3.4: Get of %x returns %s, which is not valid", all, show(got))
	}
}

func TestGetOfAllShortBytes(t *testing.T) {
	hold(t, nil, 0)
	for i := range 1 << 8 {
		hold(t, []byte{byte(i)}, 0)
		hold(t, []byte{1, 0, byte(i)}, 2)
	}
	for i := range 1 << 16 {
		b := []byte{byte(i), byte(i >> 8)}
		hold(t, b, 0)
		hold(t, append(b, "abcdefgh"...), 0)
	}
}

func TestGetOfEdges(t *testing.T) {
	for _, v := range ascending() {
		b := wantedBytes(v)
		for size := range len(b) + 1 {
			hold(t, b[:size], 0)
			hold(t, append([]byte{1, 1, 0}, b[:size]...), 3)
		}
		hold(t, append(b, 0), 0)
		hold(t, append(b, b...), 0)
	}
	for _, bits := range manyBits() {
		hold(t, binary.LittleEndian.AppendUint64([]byte{2}, bits), 0)
	}
	for length := range 200 {
		w := wire.NewWriter()
		w.Int(2)
		w.Int(length)
		hold(t, w.Bytes(), 0)
		hold(t, append(w.Bytes(), strings.Repeat("x", 64)...), 0)
		hold(t, append(w.Bytes(), strings.Repeat("x", 300)...), 0)
	}
}

func TestGetTellsTheFault(t *testing.T) {
	for _, c := range []struct {
		b         string
		fault     api.Errno
		at, place int
	}{
		{"", api.ErrShort, 0, 0},
		{"\x80", api.ErrShort, 1, 0},
		{"\x80\x00", api.ErrForm, 0, 0},
		{"\x01", api.ErrForm, 0, 0},
		{"\x03", api.ErrForm, 0, 0},
		{"\x06\x00", api.ErrForm, 0, 0},
		{"\x02", api.ErrShort, 1, 1},
		{"\x02\x00\x00\x00\x00\x00\x00\xf8", api.ErrShort, 8, 1},
		{"\x02\x01\x00\x00\x00\x00\x00\xf8\x7f", api.ErrForm, 1, 1},
		{"\x02\x00\x00\x00\x00\x00\x00\xf8\xff", api.ErrForm, 1, 1},
		{"\x04", api.ErrShort, 1, 1},
		{"\x04\x01a", api.ErrForm, 1, 1},
		{"\x04\x80\x00", api.ErrForm, 1, 1},
		{"\x04\x82\x01" + strings.Repeat("x", 65), api.ErrLong, 1, 1},
		{"\x04\x82\x01", api.ErrLong, 1, 1},
		{"\x04\x80\x01" + strings.Repeat("x", 63), api.ErrShort, 66, 1},
		{"\x04\x06ab", api.ErrShort, 4, 1},
	} {
		r := wire.NewReader([]byte(c.b))
		v := datum.Get(r)
		if e, at := r.Fault(); !exact(v, api.Value{}) || e != c.fault || at != c.at || r.Place() != c.place {
			t.Errorf("P3.4: Get of %x: %s, fault %d at %d, place %d, want %d at %d, %d", c.b, show(v), e, at, r.Place(), c.fault, c.at, c.place)
		}
	}
}

func TestGetBehindAFault(t *testing.T) {
	for _, v := range ascending() {
		b := append([]byte{9}, wantedBytes(v)...)
		flagged, failed := wire.NewReader(b), wire.NewReader(b[1:])
		flagged.Flag()
		failed.Fail(api.ErrLate)
		for range 2 {
			x, y := datum.Get(flagged), datum.Get(failed)
			if !exact(x, api.Value{}) || !exact(y, api.Value{}) {
				t.Errorf("P3.4: behind a fault Get returns %s and %s", show(x), show(y))
			}
		}
		if e, at := flagged.Fault(); e != api.ErrForm || at != 0 || flagged.Place() != 0 {
			t.Errorf("P3.4: fault %d at %d, place %d", e, at, flagged.Place())
		}
		if e, at := failed.Fault(); e != api.ErrLate || at != 0 || failed.Place() != 0 {
			t.Errorf("P3.4: fault %d at %d, place %d", e, at, failed.Place())
		}
	}
}

func TestPutAndGet(t *testing.T) {
	w := wire.NewWriter()
	l := ascending()
	for _, bits := range manyBits() {
		l = append(l, datum.Number(math.Float64frombits(bits)))
	}
	for _, v := range l {
		datum.Put(w, v)
		r := wire.NewReader(put(v))
		got := datum.Get(r)
		if e, at := r.End(); !exact(got, v) || e != api.OK || at != 0 {
			t.Errorf("P3.6: %s is read as %s, end %d at %d", show(v), show(got), e, at)
		}
	}
	r := wire.NewReader(w.Bytes())
	for _, v := range l {
		if got := datum.Get(r); !exact(got, v) || !datum.Same(got, v) {
			t.Fatalf("P3.6: %s is read as %s", show(v), show(got))
		}
	}
	if e, _ := r.End(); e != api.OK {
		t.Errorf("P3.6: end %d", e)
	}
	for _, v := range invalid() {
		if got := datum.Get(wire.NewReader(put(v))); !exact(got, api.Value{}) {
			t.Errorf("P3.4: %s is read as %s, not as None", show(v), show(got))
		}
	}
}
