package datum_test

import (
	"fmt"
	"math"
	"strings"
	"testing"

	"headrace/api"
	"headrace/datum"
)

const (
	oneNaN   = 0x7FF8000000000000
	signBit  = 1 << 63
	infinity = 0x7FF0000000000000
)

// otherNaNs are the bits of NaNs that may not stand in a value.
var otherNaNs = []uint64{
	0xFFF8000000000000, 0x7FF0000000000001, 0xFFF0000000000001, 0x7FF8000000000001, 0xFFF8000000000123,
	0x7FF7FFFFFFFFFFFF, 0xFFF7FFFFFFFFFFFF, 0x7FFFFFFFFFFFFFFF, 0xFFFFFFFFFFFFFFFF, 0x7FF4000000000000,
}

// numberBits are the bits of numbers in the order of P1.3, each before the next.
var numberBits = []uint64{
	signBit | infinity, signBit | 0x7FEFFFFFFFFFFFFF, 0xC008000000000000, 0xBFF0000000000000, 0xBFB999999999999A,
	signBit | 1<<52, signBit | 1<<52 - 1, signBit | 1, signBit,
	0, 1, 1<<52 - 1, 1 << 52, 0x3FB999999999999A, 0x3FF0000000000000, 0x3FF0000000000001, 0x4008000000000000,
	0x4340000000000000, 0x7FEFFFFFFFFFFFFF, infinity, oneNaN,
}

// texts are valid texts in the order of their bytes, each before the next.
func texts() []string {
	return []string{
		"", "\x00", "\x00\x00", "\x00\xff", "\x01", "\n", "\x1f", " ", "!", "\"", "0", "0p0", "?", "A", "\\", "\\0a",
		"a", "a\x00", "a\x00\x00", "a ", "aa", strings.Repeat("a", api.MaxText-1), strings.Repeat("a", api.MaxText), "ab", "b", "nan", "none", "~",
		"\x7f", "\x80", "\xc3\x28", "é", "\xff", strings.Repeat("\xff", api.MaxText),
	}
}

// ascending lists valid values in the order of P3.2, each before the next. It does not ask the package.
func ascending() []api.Value {
	l := []api.Value{{}}
	for _, b := range numberBits {
		l = append(l, api.Value{Kind: api.Num, Num: math.Float64frombits(b)})
	}
	for _, s := range texts() {
		l = append(l, api.Value{Kind: api.Text, Text: s})
	}
	return l
}

// invalid lists values that break one rule of P3.1 or several.
func invalid() []api.Value {
	minus, one, nan := math.Copysign(0, -1), 1.0, math.Float64frombits(oneNaN)
	long := strings.Repeat("x", api.MaxText+1)
	l := []api.Value{
		{Num: one}, {Num: minus}, {Num: nan}, {Num: math.Inf(1)}, {Num: math.SmallestNonzeroFloat64},
		{Text: "a"}, {Text: "\x00"}, {Text: long}, {Num: one, Text: "a"},
		{Kind: api.Num, Text: "a"}, {Kind: api.Num, Num: one, Text: "a"}, {Kind: api.Num, Num: one, Text: "\x00"}, {Kind: api.Num, Text: long},
		{Kind: api.Text, Num: one}, {Kind: api.Text, Num: minus}, {Kind: api.Text, Num: nan}, {Kind: api.Text, Num: math.SmallestNonzeroFloat64, Text: "a"},
		{Kind: api.Text, Num: minus, Text: "a"}, {Kind: api.Text, Text: long}, {Kind: api.Text, Text: strings.Repeat("x", 1<<16)},
	}
	for _, b := range otherNaNs {
		l = append(l, api.Value{Kind: api.Num, Num: math.Float64frombits(b)})
	}
	for _, kind := range []int{-1, -2, 3, 4, 1 << 8, 1 << 32, 1<<32 + 1, math.MaxInt, math.MinInt} {
		l = append(l, api.Value{Kind: kind}, api.Value{Kind: kind, Num: one}, api.Value{Kind: kind, Text: "a"})
	}
	return l
}

// exact: the same fields, and floats of the same bits; datum.Same is not asked.
func exact(a, b api.Value) bool {
	return a.Kind == b.Kind && math.Float64bits(a.Num) == math.Float64bits(b.Num) && a.Text == b.Text
}

// show tells a value with the bits of its float.
func show(v api.Value) string {
	return fmt.Sprintf("{kind %d, bits %x, text %q}", v.Kind, math.Float64bits(v.Num), v.Text)
}

// next steps through all numbers of 64 bits.
func next(x uint64) uint64 {
	x = x*6364136223846793005 + 1442695040888963407
	return x ^ x>>29
}

// canonBits are the bits of the float that stands for the float of the bits b.
func canonBits(b uint64) uint64 {
	if b&infinity == infinity && b&(1<<52-1) != 0 {
		return oneNaN
	}
	return b
}

// manyBits lists the bits of edges and of many other floats.
func manyBits() []uint64 {
	l := append(append([]uint64{}, numberBits...), otherNaNs...)
	seed := uint64(5)
	for range 5000 {
		seed = next(seed)
		l = append(l, seed, seed|infinity, seed&^infinity)
	}
	return l
}

func TestKey(t *testing.T) {
	for length := range 3 * api.MaxKey {
		for _, c := range []string{"k", "\x00", "\xff", "\"", " ", "\n", "\x80"} {
			s := strings.Repeat(c, length)
			if want := 1 <= length && length <= 24; datum.Key(s) != want {
				t.Errorf("P3.1: Key of %d bytes %q: %t", length, c, !want)
			}
		}
	}
	for c := range 1 << 8 {
		if !datum.Key(string([]byte{byte(c)})) || !datum.Key(string([]byte{'a', byte(c), 'b'})) {
			t.Errorf("P3.1: no key with the byte %d", c)
		}
	}
	// Bytes are counted, not letters.
	if !datum.Key(strings.Repeat("é", 12)) || datum.Key(strings.Repeat("é", 13)) || datum.Key(strings.Repeat("k", 1<<20)) {
		t.Error("P3.1: Key does not count bytes")
	}
}

func TestMay(t *testing.T) {
	for _, v := range ascending() {
		if !datum.May(v) {
			t.Errorf("P3.1: %s is not valid", show(v))
		}
	}
	for _, v := range invalid() {
		if datum.May(v) {
			t.Errorf("P3.1: %s is valid", show(v))
		}
	}
}

func TestMayOfAllParts(t *testing.T) {
	lengths := []int{0, 1, 2, 24, 25, 63, 64, 65, 128, 1000}
	for kind := -3; kind <= 6; kind++ {
		for _, b := range manyBits()[:200] {
			for _, length := range lengths {
				var want bool
				switch kind {
				case 0:
					want = b == 0 && length == 0
				case 1:
					want = b == canonBits(b) && length == 0
				case 2:
					want = b == 0 && length <= 64
				}
				v := api.Value{Kind: kind, Num: math.Float64frombits(b), Text: strings.Repeat("\x00", length)}
				if datum.May(v) != want {
					t.Errorf("P3.1: May(%s) is %t", show(v), !want)
				}
			}
		}
	}
}

func TestCompare(t *testing.T) {
	l := ascending()
	for i, a := range l {
		for k, b := range l {
			want := max(-1, min(1, i-k))
			if got := datum.Compare(a, b); got != want {
				t.Errorf("P3.2: Compare(%s, %s) is %d, not %d", show(a), show(b), got, want)
			}
			if datum.Same(a, b) != (i == k) {
				t.Errorf("P3.2: Same(%s, %s) is %t", show(a), show(b), i != k)
			}
		}
	}
}

func TestNothingIsNearToAnInvalidValue(t *testing.T) {
	all := append(ascending(), invalid()...)
	for _, a := range invalid() {
		for _, b := range all {
			if x, y := datum.Compare(a, b), datum.Compare(b, a); x != 0 || y != 0 {
				t.Errorf("P3.2: %s and %s compare as %d and %d", show(a), show(b), x, y)
			}
			if datum.Same(a, b) || datum.Same(b, a) {
				t.Errorf("P3.2: %s and %s are the same", show(a), show(b))
			}
		}
	}
}

// rank turns bits into an integer that grows in the order of P1.3.
func rank(b uint64) uint64 {
	if b = canonBits(b); b&signBit != 0 {
		return ^b
	}
	return b | signBit
}

func TestCompareOfManyNumbers(t *testing.T) {
	l := manyBits()
	for i, a := range l {
		for _, b := range []uint64{a, a + 1, a ^ signBit, l[(i+1)%len(l)], l[i*7%len(l)]} {
			want := 0
			if x, y := rank(a), rank(b); x < y {
				want = -1
			} else if x > y {
				want = 1
			}
			x, y := datum.Number(math.Float64frombits(a)), datum.Number(math.Float64frombits(b))
			if got := datum.Compare(x, y); got != want || datum.Same(x, y) != (want == 0) {
				t.Fatalf("P3.2: Compare(%s, %s) is %d, not %d", show(x), show(y), got, want)
			}
		}
	}
}

func TestCompareOfManyTexts(t *testing.T) {
	letters := []byte{0, 'a', 0x7f, 0x80, 0xff}
	var l []string
	seed := uint64(9)
	for range 300 {
		seed = next(seed)
		s := make([]byte, seed>>61)
		for i := range s {
			seed = next(seed)
			s[i] = letters[seed>>32%5]
		}
		l = append(l, string(s))
	}
	for _, a := range l {
		for _, b := range l {
			want := 0
			for i := 0; want == 0 && i <= max(len(a), len(b)); i++ {
				// An end comes before every byte.
				x, y := -1, -1
				if i < len(a) {
					x = int(a[i])
				}
				if i < len(b) {
					y = int(b[i])
				}
				want = max(-1, min(1, x-y))
			}
			x, y := datum.Words(a), datum.Words(b)
			if got := datum.Compare(x, y); got != want || datum.Same(x, y) != (want == 0) {
				t.Fatalf("P3.2: Compare(%q, %q) is %d, not %d", a, b, got, want)
			}
		}
	}
}

func TestNumber(t *testing.T) {
	for _, b := range manyBits() {
		got := datum.Number(math.Float64frombits(b))
		if got.Kind != api.Num || math.Float64bits(got.Num) != canonBits(b) || got.Text != "" || !datum.May(got) {
			t.Fatalf("P3.3: Number of the bits %x is %s", b, show(got))
		}
	}
}

func TestWords(t *testing.T) {
	for length := range 3 * api.MaxText {
		for _, c := range []string{"x", "\x00", "\xff", "\""} {
			s := strings.Repeat(c, length)
			want := api.Value{Kind: api.Text, Text: s}
			if length > 64 {
				want = api.Value{}
			}
			if got := datum.Words(s); !exact(got, want) {
				t.Errorf("P3.3: Words of %d bytes %q is %s", length, c, show(got))
			}
		}
	}
	for _, s := range texts() {
		if got := datum.Words(s); got.Kind != api.Text || got.Text != s || !datum.May(got) {
			t.Errorf("P3.3: Words(%q) is %s", s, show(got))
		}
	}
	if got := datum.Words(strings.Repeat("é", 33)); !exact(got, api.Value{}) {
		t.Errorf("P3.3: Words of 66 bytes is %s", show(got))
	}
}

// sum works out what P3.3 asks of Plus of two values of ascending.
func sum(a, b api.Value) (api.Value, api.Errno) {
	if a.Kind == api.Text || b.Kind == api.Text {
		return api.Value{}, api.ErrType
	}
	bits := canonBits(math.Float64bits(a.Num + b.Num))
	return api.Value{Kind: api.Num, Num: math.Float64frombits(bits)}, api.OK
}

func TestPlus(t *testing.T) {
	for _, a := range ascending() {
		for _, b := range ascending() {
			want, wantError := sum(a, b)
			if got, e := datum.Plus(a, b); !exact(got, want) || e != wantError {
				t.Errorf("P3.3: Plus(%s, %s) is %s, %d, not %s, %d", show(a), show(b), show(got), e, show(want), wantError)
			}
		}
	}
}

func TestPlusOfEdges(t *testing.T) {
	const minus = signBit
	none := api.Value{}
	number := func(bits uint64) api.Value { return api.Value{Kind: api.Num, Num: math.Float64frombits(bits)} }
	for _, c := range []struct {
		a, b api.Value
		want uint64
	}{
		{none, none, 0}, {none, number(minus), 0}, {number(minus), none, 0}, {number(minus), number(minus), minus},
		{number(minus), number(0), 0}, {number(0), number(minus), 0},
		{number(0x3FF0000000000000), number(0xBFF0000000000000), 0},
		{number(0x3FF0000000000000), none, 0x3FF0000000000000}, {none, number(1), 1},
		{number(infinity), number(minus | infinity), oneNaN}, {number(minus | infinity), number(infinity), oneNaN},
		{number(infinity), number(infinity), infinity}, {number(infinity), none, infinity},
		{number(oneNaN), none, oneNaN}, {none, number(oneNaN), oneNaN}, {number(oneNaN), number(oneNaN), oneNaN},
		{number(0x7FEFFFFFFFFFFFFF), number(0x7FEFFFFFFFFFFFFF), infinity},
		{number(0x4340000000000000), number(0x3FF0000000000000), 0x4340000000000000},
	} {
		if got, e := datum.Plus(c.a, c.b); !exact(got, number(c.want)) || e != api.OK {
			t.Errorf("P3.3: Plus(%s, %s) is %s, %d, not the bits %x", show(c.a), show(c.b), show(got), e, c.want)
		}
	}
}

func TestPlusOfWhatIsNoNumber(t *testing.T) {
	wrong := invalid()
	for _, s := range texts() {
		wrong = append(wrong, api.Value{Kind: api.Text, Text: s})
	}
	for _, a := range wrong {
		for _, b := range append(ascending(), invalid()...) {
			for _, pair := range [][2]api.Value{{a, b}, {b, a}} {
				if got, e := datum.Plus(pair[0], pair[1]); !exact(got, api.Value{}) || e != api.ErrType {
					t.Errorf("P3.3: Plus(%s, %s) is %s, %d, not ErrType", show(pair[0]), show(pair[1]), show(got), e)
				}
			}
		}
	}
}
