package wire_test

import (
	"bytes"
	"encoding/binary"
	"math"
	"math/big"
	"strings"
	"testing"

	"headrace/api"
	"headrace/wire"
)

// read is one of the reads, with the most that it lets in.
type read struct {
	what string
	most int
}

// of does the read; a float is answered by its bits.
func (c read) of(r *wire.Reader) any {
	switch c.what {
	case "Int":
		return r.Int()
	case "Flag":
		return r.Flag()
	case "Float":
		return math.Float64bits(r.Float())
	case "Text":
		return r.Text(c.most)
	case "Count":
		return r.Count(c.most)
	default:
		return r.Choice(c.most)
	}
}

// zero is what the read answers beside a fault.
func (c read) zero() any {
	switch c.what {
	case "Flag":
		return false
	case "Float":
		return uint64(0)
	case "Text":
		return ""
	default:
		return 0
	}
}

// reads lists every read, with ordinary and with senseless bounds.
func reads() []read {
	l := []read{{"Int", 0}, {"Flag", 0}, {"Float", 0}}
	for _, what := range []string{"Text", "Count", "Choice"} {
		for _, most := range []int{0, 1, 2, 3, 4, 63, 64, 1 << 30, math.MaxInt, -1, math.MinInt} {
			l = append(l, read{what, most})
		}
	}
	return l
}

// answer is what the document asks of a read: a value and the bytes it takes, or a fault.
type answer struct {
	value any
	size  int
	fault api.Errno
	at    int
}

// wanted works out the answer of a read of all at the place, by the words of P2.2.
func wanted(c read, all []byte, place int) answer {
	rest := all[place:]
	short := answer{c.zero(), 0, api.ErrShort, len(all)}
	fail := func(e api.Errno) answer { return answer{c.zero(), 0, e, place} }
	switch c.what {
	case "Flag":
		switch {
		case len(rest) == 0:
			return short
		case rest[0] > 1:
			return fail(api.ErrForm)
		}
		return answer{rest[0] == 1, 1, api.OK, 0}
	case "Float":
		if len(rest) < 8 {
			return short
		}
		bits := binary.LittleEndian.Uint64(rest)
		if math.IsNaN(math.Float64frombits(bits)) && bits != oneNaN {
			return fail(api.ErrForm)
		}
		return answer{bits, 8, api.OK, 0}
	}
	n, size, e := wantedInt(rest)
	switch {
	case e == api.ErrShort:
		return short
	case e != api.OK:
		return fail(e)
	case c.what == "Int":
		return answer{n, size, api.OK, 0}
	case n < 0:
		return fail(api.ErrForm)
	case n > c.most:
		return fail(map[string]api.Errno{"Text": api.ErrLong, "Count": api.ErrMany, "Choice": api.ErrForm}[c.what])
	case c.what != "Text":
		return answer{n, size, api.OK, 0}
	case n > len(rest)-size:
		return short
	}
	return answer{string(rest[size : size+n]), size + n, api.OK, 0}
}

// wantedInt reads a number of any size, and asks intBytes whether it is written so.
func wantedInt(rest []byte) (int, int, api.Errno) {
	size := 1 + bytes.IndexFunc(rest, func(c rune) bool { return c < 0x80 })
	if size == 0 {
		return 0, 0, api.ErrShort
	}
	u := new(big.Int)
	for i := range size {
		u.Lsh(u, 7)
		u.Or(u, big.NewInt(int64(rest[size-1-i]&0x7f)))
	}
	n := new(big.Int).Rsh(u, 1)
	if u.Bit(0) == 1 {
		n.Not(n)
	}
	if !n.IsInt64() || !bytes.Equal(intBytes(int(n.Int64())), rest[:size]) {
		return 0, 0, api.ErrForm
	}
	return int(n.Int64()), size, api.OK
}

// hold does the read at the place of all, where a Reader is brought by reads of flags, and holds it to wanted.
func hold(t *testing.T, c read, all []byte, place int) {
	t.Helper()
	r := wire.NewReader(all)
	for range place {
		r.Flag()
	}
	if r.Place() != place || r.Left() != len(all)-place {
		t.Fatalf("P2.3: %x: place %d, left %d, want %d, %d", all, r.Place(), r.Left(), place, len(all)-place)
	}
	want := wanted(c, all, place)
	got := c.of(r)
	e, at := r.Fault()
	if got != want.value || e != want.fault || at != want.at || r.Place() != place+want.size {
		t.Fatalf("P2.2: %s(%d) of %x at %d: %#v, fault %d at %d, place %d, want %#v", c.what, c.most, all, place, got, e, at, r.Place(), want)
	}
	left := len(all) - place - want.size
	if want.fault != api.OK {
		left = 0
	}
	if r.Left() != left {
		t.Fatalf("P2.3: %s(%d) of %x at %d: %d are left, want %d", c.what, c.most, all, place, r.Left(), left)
	}
}

func TestReadsOfAllShortBytes(t *testing.T) {
	for _, c := range reads() {
		hold(t, c, nil, 0)
		for i := range 1 << 8 {
			hold(t, c, []byte{byte(i)}, 0)
		}
		for i := range 1 << 16 {
			hold(t, c, []byte{byte(i), byte(i >> 8)}, 0)
		}
	}
}

func TestReadsOfEdgesAnywhere(t *testing.T) {
	alphabet := []byte{0x00, 0x01, 0x02, 0x06, 0x7f, 0x80, 0x81, 0xff}
	var grow func(b []byte)
	grow = func(b []byte) {
		for _, c := range reads() {
			hold(t, c, b, 2)
		}
		if len(b) < 6 {
			for _, x := range alphabet {
				grow(append(bytes.Clone(b), x))
			}
		}
	}
	grow([]byte{1, 0})
}

func TestReadsOfLongNumbers(t *testing.T) {
	for _, c := range reads() {
		for size := range 40 {
			for _, high := range []byte{0x80, 0x81, 0xff} {
				row := bytes.Repeat([]byte{high}, size)
				hold(t, c, row, 0)
				for last := range 0x80 {
					hold(t, c, append(bytes.Clone(row), byte(last), 0x05), 0)
				}
				// A group of its own in the midst of a row.
				for i := range size {
					mixed := append(bytes.Clone(row), 0x01)
					mixed[i] = 0x82
					hold(t, c, mixed, 0)
				}
			}
		}
	}
}

func TestReadsOfWhatIsWritten(t *testing.T) {
	for _, n := range edges() {
		for _, c := range []read{{"Int", 0}, {"Count", n}, {"Count", n - 1}, {"Choice", n}, {"Choice", n - 1}, {"Text", n}} {
			hold(t, c, append([]byte{1, 1, 1}, intBytes(n)...), 3)
			hold(t, c, append(intBytes(n), "abc"...), 0)
		}
		r := wire.NewReader(intBytes(n))
		if got := r.Int(); got != n {
			t.Errorf("P2.2: Int returns %d, want %d", got, n)
		}
	}
	for _, bits := range append(nanBits, floatBits...) {
		b := binary.LittleEndian.AppendUint64([]byte{1, 0}, bits)
		for size := 2; size <= len(b); size++ {
			hold(t, read{"Float", 0}, b[:size], 2)
		}
		hold(t, read{"Float", 0}, append(b, 0xff), 2)
	}
}

func TestTextAtAndPastMost(t *testing.T) {
	for _, length := range []int{0, 1, 63, 64, 65, 8191, 8192} {
		b := append(intBytes(length), strings.Repeat("q", length)...)
		for near := -1; near <= 1; near++ {
			hold(t, read{"Text", length + near}, b, 0)
			hold(t, read{"Text", length + near}, append(b, 'q'), 0)
			if length > 0 {
				hold(t, read{"Text", length + near}, b[:len(b)-1], 0)
			}
		}
	}
	// What is too long is told before what is missing, and a length that can't be met takes no room.
	for most, want := range map[int]api.Errno{math.MaxInt: api.ErrShort, math.MaxInt - 1: api.ErrLong} {
		r := wire.NewReader(intBytes(math.MaxInt))
		if s := r.Text(most); s != "" {
			t.Errorf("P2.2: %q", s)
		}
		if e, _ := r.Fault(); e != want {
			t.Errorf("P2.2: Text(%d): fault %d, want %d", most, e, want)
		}
	}
}

func TestExamplesOfReads(t *testing.T) {
	for _, c := range []struct {
		read  read
		b     string
		value any
		fault api.Errno
		at    int
	}{
		{read{"Int", 0}, "\x80\x00", 0, api.ErrForm, 0},
		{read{"Int", 0}, "\x80", 0, api.ErrShort, 1},
		{read{"Int", 0}, "", 0, api.ErrShort, 0},
		{read{"Int", 0}, "\xff\xff\xff\xff\xff\xff\xff\xff\xff\x01", math.MinInt, api.OK, 0},
		{read{"Int", 0}, "\xff\xff\xff\xff\xff\xff\xff\xff\xff\x02", 0, api.ErrForm, 0},
		{read{"Int", 0}, "\xff\xff\xff\xff\xff\xff\xff\xff\xff\x7f", 0, api.ErrForm, 0},
		{read{"Int", 0}, "\x80\x80\x80\x80\x80\x80\x80\x80\x80\x80\x01", 0, api.ErrForm, 0},
		{read{"Int", 0}, "\x80\x80\x80\x80\x80\x80\x80\x80\x80\x80\x80\x80", 0, api.ErrShort, 12},
		{read{"Text", 3}, "\x08abcd", "", api.ErrLong, 0},
		{read{"Text", 4}, "\x08abcd", "abcd", api.OK, 0},
		{read{"Text", 4}, "\x08abc", "", api.ErrShort, 4},
		{read{"Text", 3}, "\x08abc", "", api.ErrLong, 0},
		{read{"Text", 4}, "\x01", "", api.ErrForm, 0},
		{read{"Text", 0}, "\x00", "", api.OK, 0},
		{read{"Text", -1}, "\x00", "", api.ErrLong, 0},
		{read{"Text", -2}, "\x01", "", api.ErrForm, 0},
		{read{"Flag", 0}, "\x02", false, api.ErrForm, 0},
		{read{"Flag", 0}, "\x81", false, api.ErrForm, 0},
		{read{"Float", 0}, "\x01\x00\x00\x00\x00\x00\xf8\x7f", uint64(0), api.ErrForm, 0},
		{read{"Float", 0}, "\x00\x00\x00\x00\x00\x00\xf8\x7f", uint64(oneNaN), api.OK, 0},
		{read{"Float", 0}, "\x01\x00\x00\x00\x00\x00\xf8", uint64(0), api.ErrShort, 7},
		{read{"Count", 3}, "\x06", 3, api.OK, 0},
		{read{"Count", 3}, "\x08", 0, api.ErrMany, 0},
		{read{"Count", 3}, "\x01", 0, api.ErrForm, 0},
		{read{"Count", -1}, "\x00", 0, api.ErrMany, 0},
		{read{"Choice", 3}, "\x06", 3, api.OK, 0},
		{read{"Choice", 3}, "\x08", 0, api.ErrForm, 0},
		{read{"Choice", 3}, "\x01", 0, api.ErrForm, 0},
		{read{"Choice", -1}, "\x00", 0, api.ErrForm, 0},
	} {
		r := wire.NewReader([]byte(c.b))
		value := c.read.of(r)
		if e, at := r.Fault(); value != c.value || e != c.fault || at != c.at {
			t.Errorf("P2.2: %s(%d) of %x: %#v, fault %d at %d, want %#v, %d at %d", c.read.what, c.read.most, c.b, value, e, at, c.value, c.fault, c.at)
		}
	}
}

// broken returns Readers that have met each kind of fault, with the faults, their places and the places of the Readers.
func broken() (l []*wire.Reader, faults []answer) {
	for _, c := range []struct {
		read  read
		b     string
		fault api.Errno
		at    int
	}{
		{read{"Int", 0}, "\x80", api.ErrShort, 2},
		{read{"Int", 0}, "\x80\x00\x01\x01", api.ErrForm, 1},
		{read{"Flag", 0}, "\x02\x01\x01", api.ErrForm, 1},
		{read{"Flag", 0}, "", api.ErrShort, 1},
		{read{"Float", 0}, "\x00\x00\x00\x00\x00\x00\xf8\xff\x01", api.ErrForm, 1},
		{read{"Float", 0}, "1234567", api.ErrShort, 8},
		{read{"Text", 1}, "\x06\x01\x01\x01", api.ErrLong, 1},
		{read{"Text", 9}, "\x06\x01\x01", api.ErrShort, 4},
		{read{"Count", 2}, "\x06\x01", api.ErrMany, 1},
		{read{"Choice", 2}, "\x06\x01", api.ErrForm, 1},
	} {
		r := wire.NewReader([]byte("\x01" + c.b))
		r.Flag()
		c.read.of(r)
		l, faults = append(l, r), append(faults, answer{fault: c.fault, at: c.at})
	}
	return l, faults
}

func TestNothingIsReadBehindAFault(t *testing.T) {
	for _, c := range reads() {
		l, faults := broken()
		for i, r := range l {
			for range 2 {
				value := c.of(r)
				e, at := r.Fault()
				if value != c.zero() || e != faults[i].fault || at != faults[i].at || r.Place() != 1 || r.Left() != 0 {
					t.Errorf("P2.2: %s(%d) behind the fault %#v: %#v, fault %d at %d, place %d, left %d", c.what, c.most, faults[i], value, e, at, r.Place(), r.Left())
				}
				if e, at := r.End(); e != faults[i].fault || at != faults[i].at {
					t.Errorf("P2.3: End returns %d at %d, want %#v", e, at, faults[i])
				}
			}
		}
	}
}

func TestFail(t *testing.T) {
	l, faults := broken()
	for i, r := range l {
		for _, e := range []api.Errno{api.ErrNone, api.OK, -1} {
			r.Fail(e)
			if e, at := r.Fault(); e != faults[i].fault || at != faults[i].at {
				t.Errorf("P2.3: Fail replaces the fault %#v by %d at %d", faults[i], e, at)
			}
		}
	}
	for _, e := range []api.Errno{api.ErrRange, api.ErrTail, api.ErrLate, 777, -1, math.MinInt} {
		for place := range 4 {
			r := wire.NewReader([]byte("\x01\x01\x01"))
			for range place {
				r.Flag()
			}
			r.Fail(api.OK)
			if f, at := r.Fault(); f != api.OK || at != 0 || r.Left() != 3-place || r.Place() != place {
				t.Fatalf("P2.3: Fail(OK) sets %d at %d", f, at)
			}
			r.Fail(e)
			r.Fail(api.ErrMany)
			f, at := r.Fault()
			g, end := r.End()
			if f != e || at != place || g != e || end != place || r.Place() != place || r.Left() != 0 {
				t.Errorf("P2.3: Fail(%d) at %d: fault %d at %d, end %d at %d, place %d, left %d", e, place, f, at, g, end, r.Place(), r.Left())
			}
			if r.Flag() || r.Int() != 0 || r.Place() != place {
				t.Errorf("P2.2: something is read after Fail(%d)", e)
			}
		}
	}
}

func TestEnd(t *testing.T) {
	r := wire.NewReader([]byte("\x01\x00\x81\x01"))
	for _, want := range []struct {
		step  func() bool
		place int
	}{
		{func() bool { return true }, 0}, {r.Flag, 1}, {func() bool { return !r.Flag() }, 2}, {func() bool { return r.Int() == -65 }, 4},
	} {
		if !want.step() || r.Place() != want.place || r.Left() != 4-want.place {
			t.Fatalf("P2.3: place %d, left %d, want %d", r.Place(), r.Left(), want.place)
		}
		tail, at := api.ErrTail, want.place
		if at == 4 {
			tail, at = api.OK, 0
		}
		// End only looks: what it tells of the tail is no fault.
		for range 2 {
			e, k := r.End()
			f, l := r.Fault()
			if e != tail || k != at || f != api.OK || l != 0 || r.Place() != want.place {
				t.Errorf("P2.3: at %d End returns %d at %d, Fault %d at %d", want.place, e, k, f, l)
			}
		}
	}
	for _, b := range [][]byte{nil, {}} {
		r := wire.NewReader(b)
		if e, at := r.End(); e != api.OK || at != 0 || r.Place() != 0 || r.Left() != 0 {
			t.Errorf("P2.3: End of no bytes returns %d at %d", e, at)
		}
	}
}

func TestReaderKeepsACopy(t *testing.T) {
	b := []byte("\x06abc\x02tail")
	r := wire.NewReader(b[:5])
	clear(b)
	if s, n := r.Text(3), r.Int(); s != "abc" || n != 1 {
		t.Errorf("P2.4: %q, %d", s, n)
	}
	if r.Int() != 0 || len(b) != 9 {
		t.Error("P0.4: what lies behind the argument is read")
	}
	if e, at := r.Fault(); e != api.ErrShort || at != 5 {
		t.Errorf("P2.4: fault %d at %d", e, at)
	}
}

func TestArgumentsStay(t *testing.T) {
	whole := []byte("\x06abc\x02\x01\x00\x00\x00\x00\x00\x00\xf0\x3ftail")
	want := string(whole)
	r := wire.NewReader(whole[:14])
	r.Text(3)
	r.Int()
	r.Flag()
	r.Float()
	if e, _ := r.End(); e != api.OK || string(whole) != want {
		t.Errorf("P0.4: end %d, the bytes are %x", e, whole)
	}
}

func TestReadersAreApart(t *testing.T) {
	b := []byte{1, 2}
	q, r := wire.NewReader(b), wire.NewReader(b)
	q.Fail(api.ErrNone)
	if !r.Flag() || r.Int() != 1 {
		t.Error("P0.5: a fault of one Reader reaches another")
	}
}
