package num_test

import (
	"math"
	"testing"

	"headrace/num"
)

const oneNaN = 0x7FF8000000000000

var (
	inf     = math.Inf(1)
	minus   = math.Copysign(0, -1)
	nan     = math.Float64frombits(oneNaN)
	least   = math.Float64frombits(1)
	gap     = math.Float64frombits(1<<52 - 1) // the greatest subnormal number
	normal  = math.Float64frombits(1 << 52)   // the least normal number
	most    = math.MaxFloat64
	nanBits = []uint64{
		oneNaN, 0xFFF8000000000000, 0x7FF0000000000001, 0xFFF0000000000001, 0x7FF8000000000001, 0xFFF8000000000123,
		0x7FF7FFFFFFFFFFFF, 0xFFF7FFFFFFFFFFFF, 0x7FFFFFFFFFFFFFFF, 0xFFFFFFFFFFFFFFFF, 0x7FF4000000000000, 0xFFF0000000010000,
	}
)

// ascending lists floats in the order of P1.3, each before the next; the last one is NaN.
func ascending() []float64 {
	return []float64{
		-inf, -most, -1e300, -(1<<53 + 2), -1 << 53, -(1<<53 - 1), -1 << 52, -3, -2, -1.5, -1, -0.5, -0.1,
		-math.Nextafter(normal, 1), -normal, -gap, -2 * least, -least, minus,
		0, least, 2 * least, gap, normal, math.Nextafter(normal, 1),
		0.1, 0.5, 1, math.Nextafter(1, 2), 1.5, 2, 3, 1 << 52, 1<<53 - 1, 1 << 53, 1<<53 + 2, 1e300, most, inf, nan,
	}
}

// many calls f with the bits of all floats of ascending and their neighbours, of the NaNs, and of many others.
func many(f func(bits uint64)) {
	for _, x := range ascending() {
		b := math.Float64bits(x)
		f(b - 1)
		f(b)
		f(b + 1)
	}
	for _, b := range nanBits {
		f(b)
	}
	for exponent := range uint64(1 << 12) {
		for _, fraction := range []uint64{0, 1, 1 << 51, 1<<52 - 1, 0x5555555555555, 0xC000000000000} {
			f(exponent<<52 | fraction)
		}
	}
	seed := uint64(1)
	for range 10000 {
		seed = next(seed)
		f(seed)
	}
}

// next steps through all numbers of 64 bits.
func next(x uint64) uint64 {
	x = x*6364136223846793005 + 1442695040888963407
	return x ^ x>>29
}

// canonBits is what P1.1 asks of Bits, by the bits alone.
func canonBits(b uint64) uint64 {
	if b&0x7FF0000000000000 == 0x7FF0000000000000 && b&0xFFFFFFFFFFFFF != 0 {
		return oneNaN
	}
	return b
}

// same: the same bits, so that a NaN that is not the one NaN is seen.
func same(a, b float64) bool { return math.Float64bits(a) == math.Float64bits(b) }

func wantFloat(t *testing.T, what string, got, want float64) {
	t.Helper()
	if !same(got, want) {
		t.Errorf("%s: %v (%x), not %v (%x)", what, got, math.Float64bits(got), want, math.Float64bits(want))
	}
}

// P1.1

func TestOneNaN(t *testing.T) {
	for _, b := range nanBits {
		x := math.Float64frombits(b)
		wantFloat(t, "P1.1: Canon", num.Canon(x), nan)
		wantFloat(t, "P1.1: Of", num.Of(b), nan)
		if num.Bits(x) != oneNaN {
			t.Errorf("P1.1: Bits of %x: %x", b, num.Bits(x))
		}
	}
}

func TestCanonKeepsAllOthers(t *testing.T) {
	many(func(b uint64) {
		x, want := math.Float64frombits(b), canonBits(b)
		if math.Float64bits(num.Canon(x)) != want || num.Bits(x) != want || math.Float64bits(num.Of(b)) != want {
			t.Errorf("P1.1: %x: Canon %x, Bits %x, Of %x", b, math.Float64bits(num.Canon(x)), num.Bits(x), math.Float64bits(num.Of(b)))
		}
	})
}

// P1.2

func TestClass(t *testing.T) {
	for _, c := range []struct {
		class int
		l     []float64
	}{
		{1, []float64{-inf}},
		{2, []float64{-most, -1 << 53, -1, -0.1, -normal}},
		{3, []float64{-gap, -0x1p-1023, -2 * least, -least}},
		{4, []float64{minus}},
		{5, []float64{0}},
		{6, []float64{least, 2 * least, 0x1p-1023, gap}},
		{7, []float64{normal, 0.1, 1, 1 << 53, most}},
		{8, []float64{inf}},
	} {
		for _, x := range c.l {
			if num.Class(x) != c.class {
				t.Errorf("P1.2: Class(%v) is %d, not %d", x, num.Class(x), c.class)
			}
		}
	}
	for _, b := range nanBits {
		if class := num.Class(math.Float64frombits(b)); class != 0 {
			t.Errorf("P1.2: Class of the NaN %x is %d", b, class)
		}
	}
}

// P1.3

func TestRank(t *testing.T) {
	for _, c := range []struct {
		x    float64
		rank uint64
	}{
		{0, 0x8000000000000000}, {minus, 0x7FFFFFFFFFFFFFFF}, {least, 0x8000000000000001}, {-least, 0x7FFFFFFFFFFFFFFE},
		{1, 0xBFF0000000000000}, {-1, 0x400FFFFFFFFFFFFF}, {inf, 0xFFF0000000000000}, {-inf, 0x000FFFFFFFFFFFFF},
		{most, 0xFFEFFFFFFFFFFFFF}, {-most, 0x0010000000000000},
	} {
		if num.Rank(c.x) != c.rank {
			t.Errorf("P1.3: Rank(%v) is %x, not %x", c.x, num.Rank(c.x), c.rank)
		}
		wantFloat(t, "P1.3: Back", num.Back(c.rank), c.x)
	}
	for _, b := range nanBits {
		if rank := num.Rank(math.Float64frombits(b)); rank != 0xFFF8000000000000 {
			t.Errorf("P1.3: Rank of the NaN %x is %x", b, rank)
		}
	}
}

func TestBack(t *testing.T) {
	for _, rank := range []uint64{0, 1, 0x0007FFFFFFFFFFFF, 0x0008000000000000, 0x000FFFFFFFFFFFFE, 0xFFF0000000000001, 0xFFF8000000000000, 0xFFF8000000000001, math.MaxUint64} {
		wantFloat(t, "P1.3: Back of a NaN's rank", num.Back(rank), nan)
	}
	many(func(b uint64) {
		turned := b | 1<<63
		if b>>63 == 1 {
			turned = ^b
		}
		wantFloat(t, "P1.3: Back", num.Back(turned), math.Float64frombits(canonBits(b)))
		if b == canonBits(b) && num.Rank(math.Float64frombits(b)) != turned {
			t.Errorf("P1.3: Rank of the bits %x", b)
		}
	})
}

func TestCompare(t *testing.T) {
	l := ascending()
	for i, a := range l {
		for k, b := range l {
			if got := num.Compare(a, b); got != sign(i-k) {
				t.Errorf("P1.3: Compare(%v, %v) is %d, not %d", a, b, got, sign(i-k))
			}
		}
	}
}

func TestCompareNaNs(t *testing.T) {
	for _, p := range nanBits {
		x := math.Float64frombits(p)
		for _, q := range nanBits {
			if num.Compare(x, math.Float64frombits(q)) != 0 {
				t.Errorf("P1.3: the NaNs %x and %x are not equal", p, q)
			}
		}
		for _, y := range ascending() {
			if y == y && (num.Compare(x, y) != 1 || num.Compare(y, x) != -1) {
				t.Errorf("P1.3: the NaN %x does not come after %v", p, y)
			}
		}
	}
}

func sign(n int) int { return max(-1, min(1, n)) }

// P1.7

func TestTotalOrder(t *testing.T) {
	l := ascending()
	for _, b := range nanBits {
		l = append(l, math.Float64frombits(b))
	}
	for _, a := range l {
		for _, b := range l {
			ab := num.Compare(a, b)
			if num.Compare(b, a) != -ab || (ab == 0) != (num.Bits(a) == num.Bits(b)) {
				t.Errorf("P1.7: %v and %v", a, b)
			}
			for _, c := range l {
				if ab <= 0 && num.Compare(b, c) <= 0 && num.Compare(a, c) > 0 {
					t.Errorf("P1.7: %v, %v, %v: not transitive", a, b, c)
				}
			}
		}
	}
}

func TestRanksAgree(t *testing.T) {
	last := 1.0
	many(func(b uint64) {
		x := math.Float64frombits(b)
		wantFloat(t, "P1.7: Back(Rank(x))", num.Back(num.Rank(x)), num.Canon(x))
		for _, y := range []float64{last, nan, 0, minus, inf, -inf} {
			want := 0
			if num.Rank(x) < num.Rank(y) {
				want = -1
			} else if num.Rank(x) > num.Rank(y) {
				want = 1
			}
			if num.Compare(x, y) != want || (want == 0) != (num.Bits(x) == num.Bits(y)) {
				t.Errorf("P1.7: Compare(%v, %v) is %d", x, y, num.Compare(x, y))
			}
			if x < y && want != -1 || x > y && want != 1 {
				t.Errorf("P1.3: %v and %v lie the other way round", x, y)
			}
		}
		last = x
	})
}

// P1.5

func TestWhole(t *testing.T) {
	for _, n := range []int{0, 1, -1, 2, 7, -7, 1 << 31, -1 << 31, 1 << 32, 1<<52 - 1, 1 << 52, 1<<52 + 1, 1<<53 - 2, 1<<53 - 1, 1 << 53, -(1<<53 - 1), -1 << 53} {
		if got, ok := num.Whole(float64(n)); got != n || !ok {
			t.Errorf("P1.5: Whole(%d): %d, %v", n, got, ok)
		}
	}
	if n, ok := num.Whole(minus); n != 0 || !ok {
		t.Errorf("P1.5: Whole(-0): %d, %v", n, ok)
	}
}

func TestNotWhole(t *testing.T) {
	l := []float64{
		0.5, -0.5, 1.5, -1.5, 0.1, math.Nextafter(1, 0), math.Nextafter(1, 2), 1<<52 - 0.5, -(1<<52 - 0.5), 1<<50 + 0.25,
		1<<53 + 2, -(1<<53 + 2), 1 << 54, -1 << 54, 1 << 62, 1 << 63, -1 << 63, 1 << 64, 1e300, -1e300, most, -most,
		inf, -inf, least, -least, gap, -gap, normal, -normal,
	}
	for _, b := range nanBits {
		l = append(l, math.Float64frombits(b))
	}
	for _, x := range l {
		if n, ok := num.Whole(x); n != 0 || ok {
			t.Errorf("P1.5: Whole(%v): %d, %v", x, n, ok)
		}
	}
}
