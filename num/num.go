// Package num: floats with one NaN, a total order, arithmetic and an exact text (chapter 1).
package num

import (
	"cmp"
	"math"
	"math/bits"
	"strconv"
	"strings"

	"headrace/api"
)

// The parts of a float's bits.
const (
	signBit      = 1 << 63
	fractionSize = 52
	leastNormal  = 1 << fractionSize
	infinity     = 0x7FF << fractionSize
	oneNaN       = 0x7FF8000000000000
)

// The powers of two that the last bit of a float may stand for: that of the least number, and the one past all.
const (
	leastPower = -1074
	pastPower  = 1024
)

// pastWhole is the integer from which on floats have gaps; an odd part of a float lies below it.
const pastWhole = 1 << 53

// What Class answers.
const (
	classNaN = iota
	classMinusInf
	classMinusNormal
	classMinusSubnormal
	classMinusZero
	classZero
	classSubnormal
	classNormal
	classInf
)

// Canon returns the one NaN for a NaN of any bits, and any other x as it is.
func Canon(x float64) float64 {
	if math.IsNaN(x) {
		return math.Float64frombits(oneNaN)
	}
	return x
}

// Bits returns the bits of Canon(x).
func Bits(x float64) uint64 {
	return math.Float64bits(Canon(x))
}

// Of returns Canon of the float with the bits.
func Of(bits uint64) float64 {
	return Canon(math.Float64frombits(bits))
}

// Class returns the class of x, from 0 (NaN) over 1 (minus infinity) up to 8 (plus infinity).
func Class(x float64) int {
	all := Bits(x)
	size := all &^ signBit
	switch {
	case size > infinity:
		return classNaN
	case all == size:
		return classZero + distance(size)
	default:
		return classMinusZero - distance(size)
	}
}

// distance counts the classes between zero and a number: the classes of both signs mirror each other.
func distance(size uint64) int {
	switch {
	case size == 0:
		return 0
	case size < leastNormal:
		return 1
	case size < infinity:
		return 2
	default:
		return 3
	}
}

// Compare returns -1, 0 or 1: a comes before b in the total order, is equal to it, or comes after it.
func Compare(a, b float64) int {
	return cmp.Compare(Rank(a), Rank(b))
}

// Rank returns an integer that is ordered as x is: the bits of negative floats ascend with their size, so they are turned.
func Rank(x float64) uint64 {
	all := Bits(x)
	if all&signBit != 0 {
		return ^all
	}
	return all | signBit
}

// Back returns the float of a rank.
func Back(rank uint64) float64 {
	if rank&signBit != 0 {
		return Of(rank &^ signBit)
	}
	return Of(^rank)
}

// Each result below is converted to float64 before anything else is done with it: Go may otherwise
// fuse it with an operation of the caller's and round only once.

// Add returns a + b.
func Add(a, b float64) float64 {
	return Canon(float64(a + b))
}

// Sub returns a - b.
func Sub(a, b float64) float64 {
	return Canon(float64(a - b))
}

// Mul returns a * b.
func Mul(a, b float64) float64 {
	return Canon(float64(a * b))
}

// Div returns a / b.
func Div(a, b float64) float64 {
	return Canon(float64(a / b))
}

// Least returns the one of a and b that comes first in the order.
func Least(a, b float64) float64 {
	if Compare(a, b) <= 0 {
		return Canon(a)
	}
	return Canon(b)
}

// Most returns the one of a and b that comes last in the order.
func Most(a, b float64) float64 {
	if Compare(a, b) >= 0 {
		return Canon(a)
	}
	return Canon(b)
}

// Sum adds the elements from left to right; of no elements it is plus zero.
func Sum(l []float64) float64 {
	if len(l) == 0 {
		return 0
	}
	// Not from zero on: plus zero and minus zero would be plus zero.
	sum := Canon(l[0])
	for _, x := range l[1:] {
		sum = Add(sum, x)
	}
	return sum
}

// Whole returns x as an integer if it is one from -2^53 to 2^53.
func Whole(x float64) (int, bool) {
	if math.Abs(x) > pastWhole || math.Trunc(x) != x {
		return 0, false
	}
	return int(x), true
}

// Print returns the exact text of x.
func Print(x float64) string {
	switch Class(x) {
	case classNaN:
		return "nan"
	case classMinusInf:
		return "-inf"
	case classMinusZero:
		return "-0"
	case classZero:
		return "0"
	case classInf:
		return "inf"
	}
	odd, power := split(Bits(x) &^ signBit)
	text := strconv.FormatUint(odd, 10) + "p" + strconv.Itoa(power)
	if x < 0 {
		return "-" + text
	}
	return text
}

// split takes the bits of a positive number apart: the number is odd * 2^power.
func split(size uint64) (odd uint64, power int) {
	fraction := size & (leastNormal - 1)
	exponent := int(size >> fractionSize)
	if exponent == 0 {
		// Subnormal numbers have no hidden bit, and the scale of the least normal ones.
		exponent = 1
	} else {
		fraction |= leastNormal
	}
	even := bits.TrailingZeros64(fraction)
	return fraction >> even, exponent - 1 + leastPower + even
}

// Parse returns the float whose Print is s.
func Parse(s string) (float64, api.Errno) {
	switch s {
	case "nan":
		return Of(oneNaN), api.OK
	case "inf":
		return Of(infinity), api.OK
	case "-inf":
		return Of(signBit | infinity), api.OK
	case "0":
		return 0, api.OK
	case "-0":
		return Of(signBit), api.OK
	}
	size, negative := strings.CutPrefix(s, "-")
	odd, power, found := strings.Cut(size, "p")
	if !found || !isCount(odd) || !isInteger(power) {
		return 0, api.ErrForm
	}
	x, ok := join(countOf(odd), integerOf(power))
	if !ok {
		return 0, api.ErrRange
	}
	if negative {
		return -x, api.OK
	}
	return x, api.OK
}

// isInteger tells whether s is an integer in decimal.
func isInteger(s string) bool {
	return s == "0" || isCount(strings.TrimPrefix(s, "-"))
}

// isCount tells whether s is an integer in decimal that is 1 or greater.
func isCount(s string) bool {
	if s == "" || s[0] == '0' {
		return false
	}
	for _, c := range []byte(s) {
		if c < '0' || c > '9' {
			return false
		}
	}
	return true
}

// integerOf returns the integer in decimal digits, at most pastWhole and at least its negative.
func integerOf(s string) int {
	digits, negative := strings.CutPrefix(s, "-")
	if negative {
		return -countOf(digits)
	}
	return countOf(digits)
}

// countOf returns the integer in decimal digits, or pastWhole if it is greater: no float has such
// a part, so what it is exactly does not matter, and it never wraps around.
func countOf(digits string) int {
	n := 0
	for _, c := range []byte(digits) {
		n = min(10*n+int(c-'0'), pastWhole)
	}
	return n
}

// join returns odd * 2^power, and whether odd and power are the parts of a float.
func join(odd, power int) (float64, bool) {
	if odd%2 == 0 || odd >= pastWhole {
		return 0, false
	}
	if power < leastPower || power+bits.Len(uint(odd)) > pastPower {
		return 0, false
	}
	return math.Ldexp(float64(odd), power), true
}
