package wire_test

import (
	"bytes"
	"math"
	"testing"

	"headrace/api"
	"headrace/num"
	"headrace/wire"
)

// item is something that is written and read back.
type item struct {
	read  read
	value any
}

// put writes the value as the read reads it.
func put(w *wire.Writer, i item) {
	switch value := i.value.(type) {
	case int:
		w.Int(value)
	case bool:
		w.Flag(value)
	case uint64:
		w.Float(math.Float64frombits(value))
	case string:
		w.Text(value)
	}
}

// some makes up an item from a seed.
func some(seed uint64) item {
	kind, rest := seed>>32%6, seed>>40
	switch kind {
	case 0:
		l := edges()
		return item{read{"Int", 0}, l[rest%uint64(len(l))]}
	case 1:
		return item{read{"Flag", 0}, rest%2 == 0}
	case 2:
		return item{read{"Float", 0}, num.Bits(math.Float64frombits(floatBits[rest%uint64(len(floatBits))]))}
	case 3:
		length := int(rest % 70)
		return item{read{"Text", length}, string(bytes.Repeat([]byte{byte(rest)}, length))}
	case 4:
		return item{read{"Count", int(rest)}, int(rest)}
	default:
		return item{read{"Choice", math.MaxInt}, int(rest)}
	}
}

func TestWhatIsWrittenIsRead(t *testing.T) {
	seed := uint64(3)
	for range 500 {
		var items []item
		for range 1 + seed>>60 {
			seed = next(seed)
			items = append(items, some(seed))
		}
		b := write(func(w *wire.Writer) {
			for _, i := range items {
				put(w, i)
			}
		})
		r := wire.NewReader(b)
		for _, i := range items {
			if got := i.read.of(r); got != i.value {
				t.Fatalf("P2.5: %s returns %#v, want %#v", i.read.what, got, i.value)
			}
		}
		if e, at := r.End(); e != api.OK || at != 0 || r.Place() != len(b) {
			t.Fatalf("P2.5: the end is %d at %d", e, at)
		}
		// With any number of bytes missing at the end there is a fault, and nothing is made up.
		for size := range b {
			cut := wire.NewReader(b[:size])
			for _, i := range items {
				got := i.read.of(cut)
				if e, _ := cut.Fault(); e == api.OK && got != i.value || e != api.OK && got != i.read.zero() {
					t.Fatalf("P2.5: of %x, cut at %d, %s returns %#v", b, size, i.read.what, got)
				}
			}
			if e, at := cut.Fault(); e != api.ErrShort || at != size {
				t.Fatalf("P2.5: %x, cut at %d: fault %d at %d", b, size, e, at)
			}
		}
	}
}

func TestNaNsAreReadAsOne(t *testing.T) {
	for _, bits := range nanBits {
		r := wire.NewReader(write(func(w *wire.Writer) { w.Float(math.Float64frombits(bits)) }))
		if got := math.Float64bits(r.Float()); got != oneNaN {
			t.Errorf("P2.5: the NaN %x is read as %x", bits, got)
		}
	}
}

func TestWhatIsReadIsWrittenAgain(t *testing.T) {
	seed := uint64(11)
	whole := 0
	for range 30000 {
		seed = next(seed)
		b := make([]byte, seed>>60)
		for i := range b {
			seed = next(seed)
			b[i] = byte(seed >> 50)
			if seed>>63 == 0 {
				b[i] &= 0x83
			}
		}
		r := wire.NewReader(b)
		w := wire.NewWriter()
		for r.Left() > 0 {
			seed = next(seed)
			c := reads()[seed>>40%uint64(len(reads()))]
			value := c.of(r)
			if e, _ := r.Fault(); e == api.OK {
				put(w, item{c, value})
				whole++
			}
			// What was read so far, with or without a fault behind it, is written as it was.
			if !bytes.Equal(w.Bytes(), b[:r.Place()]) {
				t.Fatalf("P2.5: %x is written as %x", b[:r.Place()], w.Bytes())
			}
		}
	}
	if whole < 5000 {
		t.Errorf("too few reads succeed: %d", whole)
	}
}
