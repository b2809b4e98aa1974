package place_test

import (
	"math"
	"math/big"
	"strings"
	"testing"

	"headrace/api"
	"headrace/place"
)

var (
	inf    = math.Inf(1)
	minus  = math.Copysign(0, -1)
	nan    = math.NaN()
	least  = math.Float64frombits(1)
	gap    = math.Float64frombits(1<<52 - 1) // the greatest subnormal number
	normal = math.Float64frombits(1 << 52)   // the least normal number
	below  = math.Nextafter(1, 0)
	above  = math.Nextafter(1, 2)
)

// points lists points in ascending order.
func points() []float64 {
	return []float64{
		0, least, 2 * least, 3 * least, gap, normal, math.Nextafter(normal, 1), 0x1p-1000, 0x1p-53, 0.1, math.Nextafter(0.25, 0), 0.25,
		1.0 / 3, math.Nextafter(0.5, 0), 0.5, math.Nextafter(0.5, 1), 2.0 / 3, 0.75, math.Nextafter(below, 0), below, 1,
	}
}

// notPoints lists floats that are no points; Point turns the first of them alone into one.
func notPoints() []float64 {
	l := []float64{minus, -least, -gap, -normal, -0.5, -below, -1, -2, -math.MaxFloat64, -inf, above, 1.5, 2, 1 << 53, math.MaxFloat64, inf, nan, -nan}
	for _, bits := range []uint64{0x7FF8000000000000, 0xFFF8000000000000, 0x7FF0000000000001, 0xFFF0000000000001, 0x7FFFFFFFFFFFFFFF, 0xFFFFFFFFFFFFFFFF} {
		l = append(l, math.Float64frombits(bits))
	}
	return l
}

// same: the same bits, so that the two noughts are told apart.
func same(a, b float64) bool { return math.Float64bits(a) == math.Float64bits(b) }

// next steps through all numbers of 64 bits.
func next(x uint64) uint64 {
	x = x*6364136223846793005 + 1442695040888963407
	return x ^ x>>29
}

// P4.1

// hashes were worked out elsewhere, with integers of any size.
var hashes = []struct {
	key  string
	hash uint64
}{
	{"", 0xEFD01F60BA992926}, {"a", 0x82A2A958A9BECE5B}, {"b", 0x6E673288764AD2D0}, {"ab", 0xDA71CBD11DD9BDE4}, {"ba", 0x0679519BE9CF602C},
	{"\x00", 0xB9034AD37056F5FB}, {"\x00\x00", 0xDB01C3104E99566D}, {"\xff", 0x1BBD5C813C69A8D7}, {"\x80", 0xFDE60E7528771881},
	{"key", 0xCF8C79838F3B3030}, {"é", 0x9D55CCB9BA86763B}, {"account-0000001", 0x7307A766EBFC1540},
	{strings.Repeat("x", 24), 0x3158564B0587686B}, {strings.Repeat("y", 100), 0x07F16FF124C43284},
}

func TestHash(t *testing.T) {
	for _, c := range hashes {
		if got := place.Hash(c.key); got != c.hash {
			t.Errorf("P4.1: Hash(%q) is %X, not %X", c.key, got, c.hash)
		}
	}
	all := make([]byte, 256)
	for i := range all {
		all[i] = byte(i)
	}
	if got := place.Hash(string(all)); got != 0x2067DB6DBD4EFA06 {
		t.Errorf("P4.1: Hash of all bytes is %X", got)
	}
}

// reckonHash is P4.1 in integers of any size.
func reckonHash(key string) uint64 {
	h := big.NewInt(0)
	times := func(digits string, base int) {
		factor, _ := new(big.Int).SetString(digits, base)
		h.Mul(h, factor)
		h.Mod(h, new(big.Int).Lsh(big.NewInt(1), 64))
	}
	shiftIn := func() { h.Xor(h, new(big.Int).Rsh(h, 33)) }
	h.SetString("14695981039346656037", 10)
	for _, c := range []byte(key) {
		h.Xor(h, big.NewInt(int64(c)))
		times("1099511628211", 10)
	}
	shiftIn()
	times("FF51AFD7ED558CCD", 16)
	shiftIn()
	times("C4CEB9FE1A85EC53", 16)
	shiftIn()
	return h.Uint64()
}

// keys lists strings of all lengths up to 40, of all kinds of bytes.
func keys() []string {
	l := []string{""}
	seed := uint64(4)
	for i := range 2000 {
		key := make([]byte, i%40+1)
		for k := range key {
			seed = next(seed)
			key[k] = byte(seed >> 40)
		}
		l = append(l, string(key))
	}
	for c := range 256 {
		l = append(l, string([]byte{byte(c)}))
	}
	return l
}

func TestHashOfManyKeys(t *testing.T) {
	for _, key := range keys() {
		if got, want := place.Hash(key), reckonHash(key); got != want {
			t.Fatalf("P4.1: Hash(%q) is %X, not %X", key, got, want)
		}
	}
	long := strings.Repeat("0123456789", 10000)
	if place.Hash(long) != reckonHash(long) {
		t.Error("P4.1: Hash of a long string")
	}
}

func TestOf(t *testing.T) {
	for _, c := range hashes {
		// All the steps are exact: 53 bits, and a power of two.
		if got, want := place.Of(c.key), math.Ldexp(float64(c.hash>>11), -53); !same(got, want) {
			t.Errorf("P4.1: Of(%q) is %v, not %v", c.key, got, want)
		}
	}
	for _, key := range keys() {
		x := place.Of(key)
		if x < 0 || x >= 1 || math.Signbit(x) || x*(1<<53) != float64(place.Hash(key)>>11) {
			t.Fatalf("P4.1: Of(%q) is %v", key, x)
		}
	}
}

// P4.2

func TestPoint(t *testing.T) {
	for _, x := range points() {
		if got, e := place.Point(x); !same(got, x) || e != api.OK {
			t.Errorf("P4.2: Point(%v) is %v, %d", x, got, e)
		}
	}
	for i, x := range notPoints() {
		want := api.ErrRange
		if i == 0 {
			want = api.OK
		}
		if got, e := place.Point(x); !same(got, 0) || e != want {
			t.Errorf("P4.2: Point(%v) is %v, %d, not 0, %d", x, got, e, want)
		}
	}
}

func TestMid(t *testing.T) {
	for _, c := range []struct {
		lo, hi, x float64
		e         api.Errno
	}{
		{0, 1, 0.5, api.OK}, {0, 0.5, 0.25, api.OK}, {0.25, 0.5, 0.375, api.OK}, {0.5, 1, 0.75, api.OK}, {0.1, 0.2, 0.15000000000000002, api.OK},
		{0, 2 * least, least, api.OK}, {0, 3 * least, 2 * least, api.OK}, {0, 5 * least, 2 * least, api.OK}, {least, 3 * least, 2 * least, api.OK},
		{least, 4 * least, 3 * least, api.OK}, {0, normal, 0x1p-1023, api.OK}, {least, 1, 0.5, api.OK}, {math.Nextafter(below, 0), 1, below, api.OK},
		{math.Nextafter(0.5, 0), math.Nextafter(0.5, 1), 0.5, api.OK},
		{0, least, 0, api.ErrNarrow}, {least, 2 * least, 0, api.ErrNarrow}, {gap, normal, 0, api.ErrNarrow}, {below, 1, 0, api.ErrNarrow},
		{math.Nextafter(below, 0), below, 0, api.ErrNarrow}, {0.5, math.Nextafter(0.5, 1), 0, api.ErrNarrow}, {math.Nextafter(0.5, 0), 0.5, 0, api.ErrNarrow},
		{0, 0, 0, api.ErrRange}, {0.5, 0.5, 0, api.ErrRange}, {1, 1, 0, api.ErrRange}, {0.5, 0.25, 0, api.ErrRange}, {1, 0, 0, api.ErrRange}, {least, 0, 0, api.ErrRange},
	} {
		if x, e := place.Mid(c.lo, c.hi); !same(x, c.x) || e != c.e {
			t.Errorf("P4.2: Mid(%v, %v) is %v, %d, not %v, %d", c.lo, c.hi, x, e, c.x, c.e)
		}
	}
}

func TestMidOfWhatIsNoPoint(t *testing.T) {
	for _, wrong := range notPoints() {
		for _, other := range append(points(), notPoints()...) {
			for _, pair := range [][2]float64{{wrong, other}, {other, wrong}} {
				if x, e := place.Mid(pair[0], pair[1]); !same(x, 0) || e != api.ErrRange {
					t.Errorf("P4.2: Mid(%v, %v) is %v, %d, not ErrRange", pair[0], pair[1], x, e)
				}
			}
		}
	}
}

// rounded returns the float that is nearest to x, of two such the even one.
func rounded(x *big.Rat) float64 {
	f, _ := x.Float64()
	return f
}

// reckonMid is P4.2 in fractions, each step rounded; both are points, lo less than hi.
func reckonMid(lo, hi float64) (float64, api.Errno) {
	exact := func(x float64) *big.Rat { return new(big.Rat).SetFloat64(x) }
	length := rounded(new(big.Rat).Sub(exact(hi), exact(lo)))
	half := rounded(new(big.Rat).Quo(exact(length), exact(2)))
	x := rounded(new(big.Rat).Add(exact(lo), exact(half)))
	if x > lo && x < hi {
		return x, api.OK
	}
	return 0, api.ErrNarrow
}

func TestMidOfMany(t *testing.T) {
	l := points()
	seed := uint64(2)
	for range 60 {
		seed = next(seed)
		x := math.Float64frombits(seed % math.Float64bits(1))
		l = append(l, x, math.Nextafter(x, 1), float64(seed>>11)/(1<<53))
	}
	for _, lo := range l {
		for _, hi := range l {
			want, wantError := 0.0, api.ErrRange
			if lo < hi {
				want, wantError = reckonMid(lo, hi)
			}
			if x, e := place.Mid(lo, hi); !same(x, want) || e != wantError {
				t.Fatalf("P4.2: Mid(%v, %v) is %v, %d, not %v, %d", lo, hi, x, e, want, wantError)
			}
		}
	}
}

// P4.7

// narrow halves [lo, hi) until nothing lies between, by the half that upper tells, and counts the steps.
func narrow(t *testing.T, lo, hi float64, upper func(lo, x, hi float64) bool) (float64, float64, int) {
	t.Helper()
	for n := range 1100 {
		x, e := place.Mid(lo, hi)
		if e != api.OK {
			if e != api.ErrNarrow || math.Nextafter(lo, 1) != hi {
				t.Errorf("P4.7: Mid(%v, %v): %d", lo, hi, e)
			}
			return lo, hi, n
		}
		if !(lo < x && x < hi) {
			t.Fatalf("P4.7: Mid(%v, %v) is %v", lo, hi, x)
		}
		if upper(lo, x, hi) {
			lo = x
		} else {
			hi = x
		}
	}
	t.Errorf("P4.7: 1100 steps, and still there is %v to %v", lo, hi)
	return lo, hi, 1100
}

func TestHalves(t *testing.T) {
	always := func(answer bool) func(lo, x, hi float64) bool {
		return func(lo, x, hi float64) bool { return answer }
	}
	if lo, hi, n := narrow(t, 0, 1, always(false)); lo != 0 || hi != least || n != 1074 {
		t.Errorf("P4.7: %v, %v after %d steps", lo, hi, n)
	}
	if lo, hi, n := narrow(t, 0, 1, always(true)); lo != below || hi != 1 || n != 53 {
		t.Errorf("P4.7: %v, %v after %d steps", lo, hi, n)
	}
	seed := uint64(7)
	for range 500 {
		// Now and then the upper half, such that some walks come near to 0 first.
		seed = next(seed)
		rare := seed>>32%50 + 1
		narrow(t, 0, 1, func(lo, x, hi float64) bool {
			seed = next(seed)
			return seed>>32%rare == 0
		})
	}
	for _, goal := range points() {
		lo, hi, _ := narrow(t, 0, 1, func(lo, x, hi float64) bool { return x <= goal })
		if goal < 1 && lo != goal || goal == 1 && hi != 1 {
			t.Errorf("P4.7: %v was narrowed to %v, %v", goal, lo, hi)
		}
	}
}

func TestHalvesOfAnyRange(t *testing.T) {
	l := points()
	for _, lo := range l {
		for _, hi := range l {
			if lo < hi {
				narrow(t, lo, hi, func(lo, x, hi float64) bool { return false })
				narrow(t, lo, hi, func(lo, x, hi float64) bool { return true })
			}
		}
	}
}
