package wire_test

import (
	"bytes"
	"encoding/binary"
	"math"
	"math/big"
	"strings"
	"testing"

	"headrace/num"
	"headrace/wire"
)

const oneNaN = 0x7FF8000000000000

// nanBits are those of NaNs that are not the one that is written.
var nanBits = []uint64{
	0xFFF8000000000000, 0x7FF0000000000001, 0xFFF0000000000001, 0x7FF8000000000001, 0xFFF8000000000123,
	0x7FF7FFFFFFFFFFFF, 0xFFF7FFFFFFFFFFFF, 0x7FFFFFFFFFFFFFFF, 0xFFFFFFFFFFFFFFFF, 0x7FF4000000000000, 0xFFF0000000010000,
}

// floatBits are those of floats that are written as they are.
var floatBits = []uint64{
	0, 1 << 63, 1, 1<<63 | 1, 1<<52 - 1, 1 << 52, 0x3FF0000000000000, 0xBFB999999999999A, 0x7FEFFFFFFFFFFFFF,
	0xFFEFFFFFFFFFFFFF, 0x7FF0000000000000, 0xFFF0000000000000, oneNaN, 0x0102030405060708, 0x8807060504030201,
}

// write returns what a new Writer gathers while do writes to it.
func write(do func(w *wire.Writer)) []byte {
	w := wire.NewWriter()
	do(w)
	return w.Bytes()
}

// intBytes works out how n is written, by the words of P2.1 and without any limit of size.
func intBytes(n int) []byte {
	u := new(big.Int).Mul(big.NewInt(2), big.NewInt(int64(n)))
	if n < 0 {
		u.Neg(u)
		u.Sub(u, big.NewInt(1))
	}
	var b []byte
	for {
		group := new(big.Int)
		u.DivMod(u, big.NewInt(128), group)
		if u.Sign() == 0 {
			return append(b, byte(group.Int64()))
		}
		b = append(b, byte(group.Int64())|0x80)
	}
}

// edges lists integers at which the number of bytes changes, with their neighbours, and others between them.
func edges() []int {
	l := []int{0, -1, 1, math.MaxInt, math.MinInt, math.MaxInt - 1, math.MinInt + 1}
	for bit := range 63 {
		for near := -2; near <= 2; near++ {
			l = append(l, 1<<bit+near, -1<<bit+near)
		}
	}
	seed := uint64(7)
	for range 2000 {
		seed = next(seed)
		l = append(l, int(seed>>(seed%64)), -int(seed>>(seed%64)))
	}
	return l
}

// next steps through all numbers of 64 bits.
func next(x uint64) uint64 {
	return x*6364136223846793005 + 1442695040888963407
}

func TestNothingIsWritten(t *testing.T) {
	if b := wire.NewWriter().Bytes(); len(b) != 0 {
		t.Errorf("P2.1: a new Writer has %x", b)
	}
}

func TestIntIsWritten(t *testing.T) {
	for _, c := range []struct {
		n int
		b string
	}{
		{0, "\x00"}, {-1, "\x01"}, {1, "\x02"}, {63, "\x7e"}, {-64, "\x7f"}, {64, "\x80\x01"}, {-65, "\x81\x01"},
		{8191, "\xfe\x7f"}, {-8192, "\xff\x7f"}, {8192, "\x80\x80\x01"}, {-8193, "\x81\x80\x01"},
		{150, "\xac\x02"}, {math.MaxInt, "\xfe\xff\xff\xff\xff\xff\xff\xff\xff\x01"},
		{math.MinInt, "\xff\xff\xff\xff\xff\xff\xff\xff\xff\x01"}, {1 << 62, "\x80\x80\x80\x80\x80\x80\x80\x80\x80\x01"},
	} {
		if b := write(func(w *wire.Writer) { w.Int(c.n) }); string(b) != c.b {
			t.Errorf("P2.1: Int(%d) writes %x, want %x", c.n, b, c.b)
		}
	}
	for _, n := range edges() {
		if b := write(func(w *wire.Writer) { w.Int(n) }); !bytes.Equal(b, intBytes(n)) {
			t.Errorf("P2.1: Int(%d) writes %x, want %x", n, b, intBytes(n))
		}
	}
}

func TestIntTakesOneToTenBytes(t *testing.T) {
	for size := 1; size <= 9; size++ {
		// Of all that take size bytes, the last ones on both sides of 0.
		far := 1<<(7*size-1) - 1
		for n, want := range map[int]int{far: size, -far - 1: size, far + 1: size + 1, -far - 2: size + 1} {
			if b := write(func(w *wire.Writer) { w.Int(n) }); len(b) != want {
				t.Errorf("P2.1: Int(%d) writes %d bytes, want %d", n, len(b), want)
			}
		}
	}
}

func TestFlagIsWritten(t *testing.T) {
	b := write(func(w *wire.Writer) {
		w.Flag(true)
		w.Flag(false)
	})
	if string(b) != "\x01\x00" {
		t.Errorf("P2.1: Flag(true), Flag(false) write %x", b)
	}
}

func TestFloatIsWritten(t *testing.T) {
	if b := write(func(w *wire.Writer) { w.Float(math.Float64frombits(0x4102030405060708)) }); string(b) != "\x08\x07\x06\x05\x04\x03\x02\x41" {
		t.Errorf("P2.1: the least significant byte doesn't come first: %x", b)
	}
	for _, bits := range append(nanBits, floatBits...) {
		x := math.Float64frombits(bits)
		want := binary.LittleEndian.AppendUint64(nil, num.Bits(x))
		if b := write(func(w *wire.Writer) { w.Float(x) }); !bytes.Equal(b, want) {
			t.Errorf("P2.1: Float of the bits %x writes %x, want %x", bits, b, want)
		}
	}
	for _, bits := range nanBits {
		if b := write(func(w *wire.Writer) { w.Float(math.Float64frombits(bits)) }); string(b) != "\x00\x00\x00\x00\x00\x00\xf8\x7f" {
			t.Errorf("P2.1: the NaN of the bits %x is written as %x", bits, b)
		}
	}
}

func TestTextIsWritten(t *testing.T) {
	for _, s := range []string{"", "a", "abcd", "\x00", "\xff\x80", "é€", strings.Repeat("x", 63), strings.Repeat("y", 64), strings.Repeat("z", 100000)} {
		want := append(intBytes(len(s)), s...)
		if b := write(func(w *wire.Writer) { w.Text(s) }); !bytes.Equal(b, want) {
			t.Errorf("P2.1: Text of %d bytes writes %d bytes, want %d: %.20x", len(s), len(b), len(want), b)
		}
	}
}

func TestWritesAreAppended(t *testing.T) {
	b := write(func(w *wire.Writer) {
		w.Int(-65)
		w.Text("hi")
		w.Flag(true)
		w.Text("")
		w.Float(1)
		w.Int(0)
	})
	if want := "\x81\x01" + "\x04hi" + "\x01" + "\x00" + "\x00\x00\x00\x00\x00\x00\xf0\x3f" + "\x00"; string(b) != want {
		t.Errorf("P2.1: %x, want %x", b, want)
	}
}

func TestBytesIsACopy(t *testing.T) {
	w := wire.NewWriter()
	want := ""
	var handedOut [][]byte
	for i := range 40 {
		w.Int(i)
		want += string(rune(2 * i))
		b := w.Bytes()
		if string(b) != want {
			t.Fatalf("P2.1: after %d writes Bytes returns %x, want %x", i+1, b, want)
		}
		handedOut = append(handedOut, b)
		// The spare room is the caller's as well.
		clear(b[:cap(b)])
	}
	for i, b := range handedOut {
		if strings.Trim(string(b), "\x00") != "" {
			t.Errorf("P0.4: a later write reaches what Bytes returned after %d writes: %x", i+1, b)
		}
	}
	one, two := w.Bytes(), w.Bytes()
	clear(one[:cap(one)])
	if string(two) != want || string(w.Bytes()) != want {
		t.Error("P0.4: two results of Bytes share memory")
	}
}

func TestWritersAreApart(t *testing.T) {
	v, w := wire.NewWriter(), wire.NewWriter()
	v.Text("one")
	w.Text("two")
	v.Flag(true)
	if string(v.Bytes()) != "\x06one\x01" || string(w.Bytes()) != "\x06two" {
		t.Errorf("P0.5: %x, %x", v.Bytes(), w.Bytes())
	}
}
