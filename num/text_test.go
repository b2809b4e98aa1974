package num_test

import (
	"math"
	"math/big"
	"regexp"
	"strconv"
	"strings"
	"testing"

	"headrace/api"
	"headrace/num"
)

// printed lists floats with their texts.
func printed() map[string]float64 {
	return map[string]float64{
		"nan": nan, "inf": inf, "-inf": -inf, "0": 0, "-0": minus,
		"1p0": 1, "-1p0": -1, "1p-1": 0.5, "-3p1": -6, "1p1": 2, "3p0": 3, "5p1": 10, "25p2": 100, "3602879701896397p-55": 0.1, "-3602879701896397p-55": -0.1,
		"1p-1074": least, "-1p-1074": -least, "1p-1073": 2 * least, "3p-1074": 3 * least, "4503599627370495p-1074": gap, "-4503599627370495p-1074": -gap, "1p-1023": 0x1p-1023,
		"1p-1022": normal, "-1p-1022": -normal, "4503599627370497p-1074": 0x1.0000000000001p-1022, "9007199254740991p-1074": 0x1.fffffffffffffp-1022, "9007199254740991p-1073": 0x1.fffffffffffffp-1021,
		"9007199254740991p971": most, "-9007199254740991p971": -most, "1p1023": 0x1p1023, "-1p1023": -0x1p1023, "3p1022": 0x1.8p1023, "9007199254740991p970": 0x1.fffffffffffffp1022,
		"9007199254740991p0": 1<<53 - 1, "1p53": 1 << 53, "4503599627370497p1": 1<<53 + 2, "-1p53": -1 << 53, "4503599627370495p0": 1<<52 - 1, "4503599627370497p-52": 1 + 0x1p-52, "9007199254740991p-53": 1 - 0x1p-53,
	}
}

// P1.6, P1.8

func TestPrintAndParse(t *testing.T) {
	for s, x := range printed() {
		if got := num.Print(x); got != s {
			t.Errorf("P1.6: Print(%v) is %q, not %q", x, got, s)
		}
		if got, e := num.Parse(s); e != api.OK || !same(got, x) {
			t.Errorf("P1.6: Parse(%q) is %v, %d, not %v", s, got, e, x)
		}
	}
	for _, b := range nanBits {
		if got := num.Print(math.Float64frombits(b)); got != "nan" {
			t.Errorf("P1.6: Print of the NaN %x is %q", b, got)
		}
	}
}

func TestThereAndBack(t *testing.T) {
	many(func(b uint64) {
		x := math.Float64frombits(b)
		s := num.Print(x)
		if want := textOf(x); s != want {
			t.Errorf("P1.6: Print of the bits %x is %q, not %q", b, s, want)
		}
		if y, e := num.Parse(s); e != api.OK || math.Float64bits(y) != canonBits(b) {
			t.Errorf("P1.8: Parse(%q) is %v, %d", s, y, e)
		}
	})
}

// textOf works out the text of a float by exact integers: x * 2^1074 is one.
func textOf(x float64) string {
	switch {
	case math.IsNaN(x):
		return "nan"
	case math.IsInf(x, 1):
		return "inf"
	case math.IsInf(x, -1):
		return "-inf"
	case x == 0 && math.Signbit(x):
		return "-0"
	case x == 0:
		return "0"
	}
	exact := new(big.Float).SetFloat64(x)
	n, _ := exact.SetMantExp(exact, 1074).Int(nil)
	zeros := n.TrailingZeroBits()
	return n.Quo(n, new(big.Int).Lsh(big.NewInt(1), zeros)).String() + "p" + strconv.Itoa(int(zeros)-1074)
}

func checkErrors(t *testing.T, want api.Errno, texts []string) {
	t.Helper()
	for _, s := range texts {
		if x, e := num.Parse(s); e != want || !same(x, 0) {
			t.Errorf("P1.6: Parse(%.60q) is %v, %d, not 0, %d", s, x, e, want)
		}
	}
}

func TestParseWithoutForm(t *testing.T) {
	checkErrors(t, api.ErrForm, []string{
		"", " ", "-", "p", "-p", "--", "1", "-1", "7", "p1", "-p1", "1p", "-1p", "1p-", "1p--1", "--1p0", "1-p0", "1p1-", "-1p0-", "-1-p0",
		"0p0", "-0p0", "0p1", "00p0", "01p0", "-01p0", "001p0", "1p00", "1p01", "1p-0", "1p-00", "1p-01", "-1p-0", "00", "-00", "--0", "+0", "0.", "0.0", "-0p-0",
		"+1p0", "1p+1", "1p+0", " 1p0", "1p0 ", "1 p0", "1p 0", "- 1p0", "1p- 1", "\t1p0", "1p0\n", "1p0\x00", "\x001p0", "1\x00p0", "0\n", "0 ", " 0", "nan\n", "inf ", " -inf", "-inf\x00",
		"1pp0", "1p0p0", "1p0p", "p1p0", "1P0", "1p1p", "1e0", "1.0", "1.5p0", "1p0.0", "1,000p0", "1_0p0", "1_1p0", "1p1_0", "0x1p0", "0x1p1", "1x1p0", "ap0", "1pa", "fp0", "0b1p0",
		"NaN", "NAN", "Nan", "-nan", "+nan", "nanp0", "nan0", "na", "nann", "Inf", "INF", "+inf", "--inf", "infinity", "-infinity", "-Inf", "infp0", "in", "inff", "-in", "inf0", "1pinf", "1pnan", "nanpnan",
		"1p:", "1p/", ":p0", "/p0", "1:p0", "1/p0", "1p1:", "1p1/", "1\xb2p0", "\xff", "1p\xff", "\u0661p0", "1p\u0661", "\uff11p0", "\u22121p0", "1\u0660p0", "none", "\"1p0\"",
	})
}

// What has no form is told so, however great its integers are.
func TestParseFormComesFirst(t *testing.T) {
	long := strings.Repeat("9", 1000)
	checkErrors(t, api.ErrForm, []string{
		"2p00", "02p0", "2p-0", "1p01024", "01p1024", "1p-01075", "-2p+0", "9007199254740993p-0", "09007199254740993p0", "2p", "2", "4p1 ", "1p1024x", "x1p1024", "2px",
		long, long + "p", long + "p-", long + "p-0", long + "p0" + long, "0" + long + "p0", "1p0" + long, "1p-0" + long, long + "p" + long + "x", long + "x" + long + "p0", "x" + long + "p0", "1p" + long + "p", "--" + long + "p0", "1p--" + long,
	})
}

func TestParseOutOfRange(t *testing.T) {
	long := strings.Repeat("9", 1000)
	checkErrors(t, api.ErrRange, []string{
		"2p0", "-2p0", "4p1", "-4p1", "10p0", "6p-1", "100p-1074", "2p1022", "2p-1075", "2p-1074", "9007199254740990p0", "9007199254740992p0", "9007199254740992p-1074",
		"1p1024", "-1p1024", "3p1023", "5p1022", "7p1022", "9007199254740991p972", "-9007199254740991p972", "9007199254740991p1023", "4503599627370497p972", "1p1025", "1p2000", "1p9999", "1p10000", "1p2147483648", "1p4294967296",
		"1p-1075", "-1p-1075", "3p-1075", "9007199254740991p-1075", "9007199254740991p-1127", "1p-1076", "1p-2000", "1p-9999", "1p-10000", "1p-2147483649", "1p-4294967296",
		"9007199254740993p0", "-9007199254740993p0", "9007199254740993p-1074", "9007199254740995p0", "18014398509481983p0", "18014398509481985p-54", "9999999999999999p0", "10000000000000001p0", "99999999999999999p-100",
	})
	checkErrors(t, api.ErrRange, []string{
		// Integers that would wrap around to small ones.
		"18446744073709551617p0", "18446744073709551619p0", "36893488147419103233p0", "340282366920938463463374607431768211457p0", "-18446744073709551617p0", "9223372036854775809p0", "9223372036854775807p0", "18446744073709551615p0",
		"1p18446744073709551616", "1p18446744073709551617", "1p-18446744073709551616", "1p-18446744073709551617", "1p9223372036854775807", "1p-9223372036854775808", "1p9223372036854775808", "1p340282366920938463463374607431768211456",
		long + "p0", "-" + long + "p0", long + "p-1074", long + "p-3322", "1p" + long, "1p-" + long, long + "p" + long, long + "p-" + long, "-" + long + "p-" + long,
		"1" + strings.Repeat("0", 400) + "1p0", "1" + strings.Repeat("0", 100000) + "p0", "1p1" + strings.Repeat("0", 100000), "1p-1" + strings.Repeat("0", 100000), strings.Repeat("1", 100000) + "p-1074",
	})
}

// formed is the form of P1.6.
var formed = regexp.MustCompile(`^(nan|-?inf|-?0|-?[1-9][0-9]*p(0|-?[1-9][0-9]*))$`)

// wantedError works out what P1.6 asks of Parse, by P1.8: what has the form is the text of a float, or out of range.
func wantedError(s string) api.Errno {
	if !formed.MatchString(s) {
		return api.ErrForm
	}
	odd, power, found := strings.Cut(strings.TrimPrefix(s, "-"), "p")
	if !found {
		return api.OK
	}
	m, _ := new(big.Int).SetString(odd, 10)
	e, err := strconv.Atoi(power)
	if m.Bit(0) == 0 || m.BitLen() > 53 || err != nil || e < -1074 || e > 1024-m.BitLen() {
		return api.ErrRange
	}
	return api.OK
}

func checkText(t *testing.T, s string) {
	t.Helper()
	x, e := num.Parse(s)
	switch want := wantedError(s); {
	case e != want:
		t.Errorf("P1.6: Parse(%q): %d, not %d", s, e, want)
	case e != api.OK && !same(x, 0):
		t.Errorf("P0.3: Parse(%q): %v beside an error", s, x)
	case e == api.OK && num.Print(x) != s:
		t.Errorf("P1.8: Parse(%q) is printed as %q", s, num.Print(x))
	}
}

func TestParseShortTexts(t *testing.T) {
	everyText(t, "-0129pnaif+. ", 4, "")
	everyText(t, "-012p", 7, "")
}

// everyText checks the texts of at most so many letters.
func everyText(t *testing.T, letters string, most int, s string) {
	checkText(t, s)
	if most == 0 {
		return
	}
	for _, c := range letters {
		everyText(t, letters, most-1, s+string(c))
	}
}

func TestParseEdges(t *testing.T) {
	odds := []string{"1", "2", "3", "5", "7", "9", "10", "4503599627370495", "4503599627370496", "4503599627370497", "9007199254740989", "9007199254740991", "9007199254740992", "9007199254740993"}
	for _, odd := range odds {
		for power := -1140; power <= 1040; power++ {
			checkText(t, odd+"p"+strconv.Itoa(power))
			checkText(t, "-"+odd+"p"+strconv.Itoa(power))
		}
	}
	for shift := range 130 {
		edge := new(big.Int).Lsh(big.NewInt(1), uint(shift))
		for near := int64(-3); near <= 3; near++ {
			n := new(big.Int).Add(edge, big.NewInt(near)).String()
			for _, s := range []string{n + "p0", n + "p-1074", n + "p971", "1p" + n, "1p-" + n, "-" + n + "p1"} {
				checkText(t, s)
			}
		}
	}
}

// Any byte in any place of a text is read or refused, and never panics.
func TestParseAnyByte(t *testing.T) {
	for s := range printed() {
		for i := range len(s) + 1 {
			for c := range 256 {
				added := string([]byte{byte(c)})
				checkText(t, s[:i]+added+s[i:])
				if i < len(s) {
					checkText(t, s[:i]+added+s[i+1:])
				}
			}
			checkText(t, s[:i])
			checkText(t, s[i:])
		}
	}
}
