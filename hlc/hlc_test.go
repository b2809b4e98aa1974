package hlc_test

import (
	"cmp"
	"fmt"
	"math"
	"math/big"
	"regexp"
	"slices"
	"strings"
	"testing"

	"headrace/api"
	"headrace/hlc"
)

func stamp(wall, logical, node int) api.Stamp {
	return api.Stamp{Wall: wall, Logical: logical, Node: node}
}

// edges lists numbers about 0 and about most, in ascending order, and those in a number's farthest reach.
func edges(most int) []int {
	return []int{math.MinInt, math.MinInt + 1, -most, -2, -1, 0, 1, 2, most / 2, most - 1, most, most + 1, math.MaxInt - 1, math.MaxInt}
}

// product lists all stamps of the numbers; they ascend if the numbers do.
func product(walls, logicals, nodes []int) []api.Stamp {
	var l []api.Stamp
	for _, w := range walls {
		for _, g := range logicals {
			for _, n := range nodes {
				l = append(l, stamp(w, g, n))
			}
		}
	}
	return l
}

// allStamps lists stamps that are valid and others, in ascending order.
func allStamps() []api.Stamp {
	return product(edges(1<<48), edges(65535), edges(63))
}

// validStamps lists valid stamps in ascending order.
func validStamps() []api.Stamp {
	inside := func(l []int, most int) []int {
		return slices.DeleteFunc(l, func(n int) bool { return n < 0 || n > most })
	}
	return product(inside(edges(1<<48), 1<<48), inside(edges(65535), 65535), inside(edges(63), 63))
}

// rank is the number of valid stamps below the valid stamp s. It has up to 71 bits.
func rank(s api.Stamp) *big.Int {
	r := big.NewInt(int64(s.Wall))
	r.Mul(r, big.NewInt(65536))
	r.Add(r, big.NewInt(int64(s.Logical)))
	r.Mul(r, big.NewInt(64))
	return r.Add(r, big.NewInt(int64(s.Node)))
}

// P8.1

func TestMayAtEveryEdge(t *testing.T) {
	valid := validStamps()
	if len(valid) != 6*6*6 {
		t.Fatalf("there are %d valid stamps in the list", len(valid))
	}
	found := 0
	for _, s := range allStamps() {
		_, want := slices.BinarySearchFunc(valid, s, compareByFields)
		if got := hlc.May(s); got != want {
			t.Errorf("P8.1: May(%v) is %t", s, got)
		}
		if want {
			found++
		}
	}
	if found != len(valid) {
		t.Errorf("%d valid stamps are in the list of all", found)
	}
}

func TestMayWithOneWrongNumber(t *testing.T) {
	for _, s := range []api.Stamp{
		stamp(-1, 0, 0), stamp(0, -1, 0), stamp(0, 0, -1),
		stamp(1<<48+1, 0, 0), stamp(0, 1<<16, 0), stamp(0, 0, 64),
		stamp(math.MinInt, 1, 1), stamp(1, math.MinInt, 1), stamp(1, 1, math.MinInt),
		stamp(math.MaxInt, 1, 1), stamp(1, math.MaxInt, 1), stamp(1, 1, math.MaxInt),
	} {
		if hlc.May(s) {
			t.Errorf("P8.1: May(%v) is true", s)
		}
	}
}

// compareByFields is the order of P8.1 by another means.
func compareByFields(a, b api.Stamp) int {
	return slices.Compare([]int{a.Wall, a.Logical, a.Node}, []int{b.Wall, b.Logical, b.Node})
}

func TestCompareAndLater(t *testing.T) {
	l := allStamps()
	for i, a := range l {
		// Pairs far apart in the list are as good as near ones: 61 and the length have no common factor.
		for k := i % 61; k < len(l); k += 61 {
			holdPair(t, a, l[k], cmp.Compare(i, k))
			holdPair(t, l[k], a, cmp.Compare(k, i))
		}
		for k := max(i-2, 0); k < min(i+3, len(l)); k++ {
			holdPair(t, a, l[k], cmp.Compare(i, k))
		}
	}
}

// holdPair holds a and b to the order that they are in.
func holdPair(t *testing.T, a, b api.Stamp, order int) {
	t.Helper()
	if got := hlc.Compare(a, b); got != order {
		t.Errorf("P8.1: Compare(%v, %v) is %d, not %d", a, b, got, order)
	}
	later := a
	if order < 0 {
		later = b
	}
	if got := hlc.Later(a, b); got != later {
		t.Errorf("P8.1: Later(%v, %v) is %v", a, b, got)
	}
}

func TestCompareByTheFirstNumberThatDiffers(t *testing.T) {
	for _, c := range []struct{ less, more api.Stamp }{
		{stamp(1, 9, 9), stamp(2, 0, 0)}, {stamp(1, 1, 9), stamp(1, 2, 0)}, {stamp(1, 1, 1), stamp(1, 1, 2)},
		{stamp(math.MinInt, 0, 0), stamp(math.MaxInt, 0, 0)}, {stamp(0, math.MinInt, 0), stamp(0, math.MaxInt, 0)},
		{stamp(0, 0, math.MinInt), stamp(0, 0, math.MaxInt)}, {stamp(-1, 5, 5), stamp(0, -5, -5)},
	} {
		holdPair(t, c.less, c.more, -1)
		holdPair(t, c.more, c.less, 1)
		holdPair(t, c.less, c.less, 0)
	}
}

func TestPriorOfTheExamples(t *testing.T) {
	for _, c := range []struct {
		s, prior api.Stamp
		ok       bool
	}{
		{stamp(0, 0, 0), stamp(0, 0, 0), false},
		{stamp(0, 0, 5), stamp(0, 0, 4), true},
		{stamp(0, 1, 0), stamp(0, 0, 63), true},
		{stamp(1, 0, 0), stamp(0, 65535, 63), true},
		{stamp(1<<48, 0, 0), stamp(1<<48-1, 65535, 63), true},
		{stamp(1<<48, 65535, 63), stamp(1<<48, 65535, 62), true},
		{stamp(1<<48+1, 0, 0), stamp(0, 0, 0), false},
		{stamp(0, 0, 64), stamp(0, 0, 0), false},
		{stamp(0, 65536, 0), stamp(0, 0, 0), false},
		{stamp(5, 5, -1), stamp(0, 0, 0), false},
	} {
		if got, ok := hlc.Prior(c.s); got != c.prior || ok != c.ok {
			t.Errorf("P8.1: Prior(%v) is %v, %t", c.s, got, ok)
		}
	}
}

func TestPriorOfStampsThatAreNotValid(t *testing.T) {
	valid := validStamps()
	for _, s := range allStamps() {
		if slices.Contains(valid, s) {
			continue
		}
		if got, ok := hlc.Prior(s); got != (api.Stamp{}) || ok {
			t.Errorf("P8.1: Prior(%v) is %v, %t", s, got, ok)
		}
	}
}

// P8.5

func TestNothingIsBetweenPriorAndStamp(t *testing.T) {
	l := validStamps()
	if got, ok := hlc.Prior(l[0]); l[0] != (api.Stamp{}) || got != (api.Stamp{}) || ok {
		t.Errorf("P8.1: Prior of %v is %v, %t", l[0], got, ok)
	}
	for i, s := range l[1:] {
		got, ok := hlc.Prior(s)
		if !ok || !hlc.May(got) || new(big.Int).Sub(rank(s), rank(got)).Cmp(big.NewInt(1)) != 0 {
			t.Errorf("P8.5: Prior(%v) is %v, %t", s, got, ok)
		}
		if compareByFields(l[i], got) > 0 || compareByFields(got, s) >= 0 {
			t.Errorf("P8.5: %v is between %v and %v", l[i], got, s)
		}
	}
}

func TestPriorStepByStep(t *testing.T) {
	s := stamp(2, 3, 1)
	for range 20000 {
		before, ok := hlc.Prior(s)
		if !ok {
			t.Fatalf("P8.1: %v has no Prior", s)
		}
		if new(big.Int).Sub(rank(s), rank(before)).Cmp(big.NewInt(1)) != 0 {
			t.Fatalf("P8.5: Prior(%v) is %v", s, before)
		}
		s = before
	}
	// 193 steps lead to the beginning of the moment 2; the other 19807 are 309 times 64 and 31.
	if s != stamp(1, 65535-309, 64-31) {
		t.Errorf("P8.5: 20000 steps end at %v", s)
	}
}

// P8.2

func TestPrint(t *testing.T) {
	for _, s := range allStamps() {
		if got, want := hlc.Print(s), fmt.Sprintf("%d.%d.%d", s.Wall, s.Logical, s.Node); got != want {
			t.Errorf("P8.2: Print(%v) is %q", s, got)
		}
	}
}

func TestTextsOfTheExamples(t *testing.T) {
	for _, c := range []struct {
		s    api.Stamp
		text string
	}{
		{stamp(7, 0, 3), "7.0.3"}, {stamp(0, 0, 0), "0.0.0"}, {stamp(1<<48, 65535, 63), "281474976710656.65535.63"},
		{stamp(-1, -20, -300), "-1.-20.-300"}, {stamp(math.MinInt, 0, math.MaxInt), "-9223372036854775808.0.9223372036854775807"},
	} {
		if got := hlc.Print(c.s); got != c.text {
			t.Errorf("P8.2: Print(%v) is %q, not %q", c.s, got, c.text)
		}
	}
	holdParse(t, "7.0.3", stamp(7, 0, 3), api.OK)
	holdParse(t, "7.00.3", api.Stamp{}, api.ErrForm)
	holdParse(t, "7.0.64", api.Stamp{}, api.ErrForm)
}

func holdParse(t *testing.T, text string, want api.Stamp, e api.Errno) {
	t.Helper()
	if got, ge := hlc.Parse(text); got != want || ge != e {
		t.Errorf("P8.2: Parse(%q) is %v, %d, not %v, %d", text, got, ge, want, e)
	}
}

func TestParseReadsWhatPrintPrints(t *testing.T) {
	valid := validStamps()
	for _, s := range allStamps() {
		if slices.Contains(valid, s) {
			holdParse(t, hlc.Print(s), s, api.OK)
		} else {
			holdParse(t, hlc.Print(s), api.Stamp{}, api.ErrForm)
		}
	}
}

func TestParseOfWrongTexts(t *testing.T) {
	for _, text := range []string{
		"", ".", "..", "...", "7", "7.0", "7.0.", ".0.3", "7..3", "7.0.3.", ".7.0.3", "7.0.3.1", "7.0.3.0", "7.0..3",
		"+7.0.3", "7.+0.3", "7.0.+3", "-0.0.0", "0.-0.0", "0.0.-0", "-7.0.3", "7.-1.3", "7.0.-3",
		"07.0.3", "7.0.03", "00.0.0", "0.00.0", "0.0.00", "7_0.0.3", "1_000.0.3", "0x7.0.3", "7e1.0.3", "0b1.0.0", "0o7.0.0",
		" 7.0.3", "7.0.3 ", "7. 0.3", "7.0.3\n", "7.0.3\x00", "\x007.0.3", "7,0,3", "7:0:3", "7.0,3", "a.b.c", "7.0.x", "٧.0.3", "7。0.3",
		"281474976710657.0.0", "0.65536.0", "0.0.64", "0.0.100", "9223372036854775807.0.0", "9223372036854775808.0.0",
		"18446744073709551616.0.0", "18446744073709551623.0.3", "0.18446744073709551616.0", "0.0.18446744073709551619", "-9223372036854775809.0.0",
		"99999999999999999999.99999999999999999999.99999999999999999999", strings.Repeat("0", 1000) + ".0.0", "1" + strings.Repeat("0", 1000) + ".0.0",
		strings.Repeat(".", 100000), strings.Repeat("1.", 100000), "7.0.3" + strings.Repeat(".", 1000),
	} {
		holdParse(t, text, api.Stamp{}, api.ErrForm)
	}
}

var form = regexp.MustCompile(`^(0|[1-9][0-9]*)\.(0|[1-9][0-9]*)\.(0|[1-9][0-9]*)$`)

// reckonParse is P8.2 in integers of any size.
func reckonParse(text string) (api.Stamp, api.Errno) {
	m := form.FindStringSubmatch(text)
	if m == nil {
		return api.Stamp{}, api.ErrForm
	}
	var l [3]int
	for i, most := range []int64{1 << 48, 65535, 63} {
		n, _ := new(big.Int).SetString(m[i+1], 10)
		if n.Cmp(big.NewInt(most)) > 0 {
			return api.Stamp{}, api.ErrForm
		}
		l[i] = int(n.Int64())
	}
	return stamp(l[0], l[1], l[2]), api.OK
}

func TestParseOfAllShortTexts(t *testing.T) {
	const letters = "016.-+ "
	read := 0
	var walk func(text string)
	walk = func(text string) {
		want, e := reckonParse(text)
		holdParse(t, text, want, e)
		if e == api.OK {
			read++
		}
		if len(text) < 7 {
			for i := range len(letters) {
				walk(text + letters[i:i+1])
			}
		}
	}
	walk("")
	if read < 400 {
		t.Errorf("only %d of the texts are of stamps", read)
	}
}

func TestParseOfAlmostRightTexts(t *testing.T) {
	hold := func(text string) {
		want, e := reckonParse(text)
		holdParse(t, text, want, e)
	}
	for _, right := range []string{"7.0.3", "0.0.0", "281474976710656.65535.63", "281474976710655.65534.62", "1000.100.10"} {
		for i := range len(right) {
			hold(right[:i])
			hold(right[i:])
			hold(right[:i] + right[i+1:])
			for c := range 256 {
				hold(right[:i] + string([]byte{byte(c)}) + right[i:])
				hold(right[:i] + string([]byte{byte(c)}) + right[i+1:])
			}
		}
		for c := range 256 {
			hold(right + string([]byte{byte(c)}))
		}
	}
}
