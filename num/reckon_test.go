package num_test

import (
	"math"
	"slices"
	"testing"

	"headrace/num"
)

type reckoning struct {
	a, b, want float64
}

func checkAll(t *testing.T, what string, f func(a, b float64) float64, l []reckoning) {
	t.Helper()
	for _, c := range l {
		if got := f(c.a, c.b); !same(got, c.want) {
			t.Errorf("P1.4: %s(%v, %v) is %v (%x), not %v", what, c.a, c.b, got, math.Float64bits(got), c.want)
		}
	}
}

func TestAdd(t *testing.T) {
	checkAll(t, "Add", num.Add, []reckoning{
		{1, 2, 3}, {0.1, 0.2, 0.30000000000000004}, {1, -1, 0}, {-1, 1, 0},
		{0, 0, 0}, {minus, minus, minus}, {0, minus, 0}, {minus, 0, 0}, {minus, 1, 1},
		{1 << 53, 1, 1 << 53}, {1<<53 + 2, 1, 1<<53 + 4}, {1, 0x1p-53, 1}, {1 + 0x1p-52, 0x1p-53, 1 + 0x1p-51}, {1, 0x1.8p-53, 1 + 0x1p-52},
		{least, least, 2 * least}, {gap, least, normal}, {normal, -least, gap}, {least, -least, 0},
		{most, most, inf}, {most, 0x1p970, inf}, {most, 0x1.fffffffffffffp969, most}, {-most, -most, -inf}, {most, -most, 0},
		{inf, 1, inf}, {-inf, most, -inf}, {inf, inf, inf}, {inf, -inf, nan}, {-inf, inf, nan}, {nan, 1, nan}, {1, nan, nan}, {nan, inf, nan},
	})
}

func TestSub(t *testing.T) {
	checkAll(t, "Sub", num.Sub, []reckoning{
		{3, 2, 1}, {2, 3, -1}, {0.3, 0.1, 0.19999999999999998}, {1, 1, 0},
		{0, 0, 0}, {minus, 0, minus}, {0, minus, 0}, {minus, minus, 0},
		{-1 << 53, 1, -1 << 53}, {1 << 53, 0.5, 1 << 53}, {1 << 53, 0.75, 1<<53 - 1}, {1, 0x1p-54, 1}, {1, 0x1.8p-54, 1 - 0x1p-53},
		{normal, least, gap}, {least, normal, -gap}, {-most, most, -inf}, {most, -most, inf},
		{inf, -inf, inf}, {1, inf, -inf}, {inf, inf, nan}, {-inf, -inf, nan}, {nan, nan, nan}, {0, nan, nan}, {nan, 0, nan},
	})
}

func TestMul(t *testing.T) {
	checkAll(t, "Mul", num.Mul, []reckoning{
		{3, -2, -6}, {0.1, 3, 0.30000000000000004}, {0.5, 0.5, 0.25},
		{0, 0, 0}, {minus, 0, minus}, {-1, 0, minus}, {minus, minus, 0}, {minus, 5, minus}, {minus, -5, 0},
		{1 + 0x1p-52, 1 + 0x1p-52, 1 + 0x1p-51}, {1<<53 - 1, 1<<53 - 1, 0x1.ffffffffffffep105},
		{least, 0.5, 0}, {least, -0.5, minus}, {least, 0.75, least}, {3 * least, 0.5, 2 * least}, {5 * least, 0.5, 2 * least}, {normal, 0.5, 0x1p-1023}, {gap, 2, 0x1.ffffffffffffep-1022}, {0x1p-600, 0x1p-600, 0},
		{most, 2, inf}, {most, -2, -inf}, {most, 1 + 0x1p-52, inf}, {most, most, inf},
		{inf, 2, inf}, {inf, -2, -inf}, {inf, -inf, -inf}, {-inf, -inf, inf}, {inf, 0, nan}, {minus, inf, nan}, {0, -inf, nan}, {nan, 0, nan}, {inf, nan, nan},
	})
}

func TestDiv(t *testing.T) {
	checkAll(t, "Div", num.Div, []reckoning{
		{6, 3, 2}, {1, 3, 0.3333333333333333}, {-1, 2, -0.5}, {1, 10, 0.1}, {5, 3, 1.6666666666666667},
		{1, 0, inf}, {1, minus, -inf}, {-1, 0, -inf}, {-1, minus, inf}, {0, 1, 0}, {minus, 1, minus}, {0, -1, minus}, {minus, -1, 0}, {least, 0, inf}, {inf, 0, inf}, {inf, minus, -inf}, {-inf, 0, -inf},
		{0, 0, nan}, {0, minus, nan}, {minus, 0, nan}, {minus, minus, nan},
		{least, 2, 0}, {3 * least, 2, 2 * least}, {normal, 2, 0x1p-1023}, {most, 0.5, inf}, {most, least, inf}, {least, most, 0},
		{1, inf, 0}, {-1, inf, minus}, {1, -inf, minus}, {inf, -2, -inf}, {inf, inf, nan}, {inf, -inf, nan}, {-inf, inf, nan}, {nan, 1, nan}, {1, nan, nan}, {nan, 0, nan},
	})
}

func TestReckoningTellsTheOneNaN(t *testing.T) {
	for name, f := range map[string]func(a, b float64) float64{"Add": num.Add, "Sub": num.Sub, "Mul": num.Mul, "Div": num.Div} {
		for _, p := range nanBits {
			x := math.Float64frombits(p)
			for _, y := range append(ascending(), x, math.Float64frombits(0xFFF8000000000777)) {
				wantFloat(t, "P1.4: "+name+" of a NaN, in front", f(x, y), nan)
				wantFloat(t, "P1.4: "+name+" of a NaN, behind", f(y, x), nan)
			}
		}
	}
}

// What is reckoned of what is reckoned is rounded twice: nothing is fused into one operation.
func TestEachStepIsRounded(t *testing.T) {
	a := 1 + 0x1p-30
	square := 1 + 0x1p-29
	l := []float64{a, a, square}
	wantFloat(t, "P1.4: Sub of Mul", num.Sub(num.Mul(l[0], l[1]), l[2]), 0)
	wantFloat(t, "P1.4: Sub of a number and Mul", num.Sub(l[2], num.Mul(l[0], l[1])), 0)
	wantFloat(t, "P1.4: Add of Mul", num.Add(num.Mul(-l[0], l[1]), l[2]), 0)
	wantFloat(t, "P1.4: Mul and Go's minus", num.Mul(l[0], l[1])-l[2], 0)
}

func TestLeastAndMost(t *testing.T) {
	l := ascending()
	for i, a := range l {
		for k, b := range l {
			wantFloat(t, "P1.4: Least", num.Least(a, b), l[min(i, k)])
			wantFloat(t, "P1.4: Most", num.Most(a, b), l[max(i, k)])
		}
	}
	for _, p := range nanBits {
		x := math.Float64frombits(p)
		for _, y := range l {
			wantFloat(t, "P1.4: Least of a NaN and a number", num.Least(x, y), y)
			wantFloat(t, "P1.4: Least of a number and a NaN", num.Least(y, x), y)
			wantFloat(t, "P1.4: Most of a NaN and a number", num.Most(x, y), nan)
			wantFloat(t, "P1.4: Most of a number and a NaN", num.Most(y, x), nan)
		}
		for _, q := range nanBits {
			y := math.Float64frombits(q)
			wantFloat(t, "P1.4: Least of two NaNs", num.Least(x, y), nan)
			wantFloat(t, "P1.4: Most of two NaNs", num.Most(x, y), nan)
		}
	}
}

func TestSum(t *testing.T) {
	for _, c := range []struct {
		l    []float64
		want float64
	}{
		{nil, 0}, {[]float64{}, 0}, {[]float64{5}, 5}, {[]float64{1, 2, 3, 4}, 10}, {[]float64{0.1, 0.2, 0.3}, 0.6000000000000001}, {[]float64{0.3, 0.2, 0.1}, 0.6},
		{[]float64{minus}, minus}, {[]float64{minus, minus, minus}, minus}, {[]float64{minus, 0}, 0}, {[]float64{0, minus}, 0}, {[]float64{0}, 0},
		{[]float64{1, 1 << 53, -1 << 53}, 0}, {[]float64{1 << 53, -1 << 53, 1}, 1}, {[]float64{1 << 53, 1, 1}, 1 << 53}, {[]float64{1, 1, 1 << 53}, 1<<53 + 2},
		{[]float64{most, most, -most}, inf}, {[]float64{most, -most, most}, most}, {[]float64{inf, most}, inf}, {[]float64{inf, -inf, 1}, nan}, {[]float64{1, nan, 2}, nan}, {[]float64{1, 2, nan}, nan},
		{[]float64{least, least, least}, 3 * least},
	} {
		kept := slices.Clone(c.l)
		if got := num.Sum(c.l); !same(got, c.want) {
			t.Errorf("P1.4: Sum(%v) is %v, not %v", c.l, got, c.want)
		}
		if !slices.EqualFunc(kept, c.l, same) {
			t.Errorf("P0.4: Sum changed %v to %v", kept, c.l)
		}
	}
}

func TestSumOfNaNs(t *testing.T) {
	for _, b := range nanBits {
		x := math.Float64frombits(b)
		for _, l := range [][]float64{{x}, {x, 1}, {1, x}, {x, x}, {1, 2, x, inf}} {
			wantFloat(t, "P1.4: Sum with a NaN", num.Sum(l), nan)
		}
	}
}

func TestSumOfPieces(t *testing.T) {
	l := []float64{1, 2, 4, 8, 16}
	wantFloat(t, "P0.4: Sum of the first two", num.Sum(l[:2]), 3)
	wantFloat(t, "P0.4: Sum of none", num.Sum(l[:0]), 0)
	long := make([]float64, 100001)
	for i := range long {
		long[i] = 0.1
	}
	sum := long[0]
	for _, x := range long[1:] {
		sum += x
	}
	wantFloat(t, "P1.4: Sum of many", num.Sum(long), sum)
}
