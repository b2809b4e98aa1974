package hand_test

import (
	"math"
	"slices"
	"strings"
	"testing"

	"headrace/api"
	"headrace/hand"
	"headrace/place"
)

// halved holds Halve to its results.
func halved(t *testing.T, l []api.Write, point float64, left, right []api.Write) {
	t.Helper()
	gotLeft, gotRight := hand.Halve(l, point)
	if writesText(gotLeft) != writesText(left) || writesText(gotRight) != writesText(right) {
		t.Fatalf("P15.2: Halve(%s, %v) is%s and%s\nnot%s and%s", writesText(l), point, writesText(gotLeft), writesText(gotRight), writesText(left), writesText(right))
	}
}

// ascending lists writes of keys in the order of their places.
func ascending() []api.Write {
	return []api.Write{put("h", 1), put("e", 2), put("g", 3), put("b", 4), put("c", 5), put("a", 6), put("d", 7), put("f", 8)}
}

// P15.2
func TestHalveAtPoints(t *testing.T) {
	l := ascending()
	places := []float64{placeH, placeE, placeG, placeB, placeC, placeA, placeD, placeF}
	for i := range l {
		below, above := math.Floor(places[i]*100)/100, math.Ceil(places[i]*100)/100
		halved(t, l, below, l[:i], l[i:])
		halved(t, l, above, l[:i+1], l[i+1:])
	}
	for _, point := range []float64{0, minusZero, least, -1, math.Inf(-1), nan, otherNaN, minusNaN} {
		halved(t, l, point, nil, l)
	}
	for _, point := range []float64{belowOne, 1, math.Nextafter(1, 2), 2, math.Inf(1)} {
		halved(t, l, point, l, nil)
	}
}

// P15.2: a key whose place is the point is none of those below it.
func TestHalveAtAPlace(t *testing.T) {
	l := []api.Write{put("b", 1)}
	halved(t, l, math.Nextafter(placeB, 0), nil, l)
	halved(t, l, placeB, nil, l)
	halved(t, l, math.Nextafter(placeB, 1), l, nil)
}

// P15.2: both results have the order of the list, in which a key may be more than once.
func TestHalveKeepsTheOrder(t *testing.T) {
	l := []api.Write{put("f", 1), put("b", 2), put("a", 3), put("b", 4), put("a", 5), put("b", 2), put("h", 6), put("f", 1)}
	left := []api.Write{put("b", 2), put("b", 4), put("b", 2), put("h", 6)}
	right := []api.Write{put("f", 1), put("a", 3), put("a", 5), put("f", 1)}
	halved(t, l, 0.5, left, right)
	slices.Reverse(l)
	slices.Reverse(left)
	slices.Reverse(right)
	halved(t, l, 0.5, left, right)
	halved(t, nil, 0.5, nil, nil)
	halved(t, []api.Write{}, 0.5, nil, nil)
}

// P15.2: strings that are no keys have a place too.
func TestHalveOfAnyStrings(t *testing.T) {
	for _, key := range []string{"", "\x00", "\xff\xfe", "é", strings.Repeat("k", 24), strings.Repeat("k", 25), strings.Repeat("a long text ", 100)} {
		l := []api.Write{put(key, 1)}
		x := place.Of(key)
		halved(t, l, x, nil, l)
		halved(t, l, math.Nextafter(x, 1), l, nil)
		halved(t, l, nan, nil, l)
	}
}

// P15.2, P0.8: values need not be valid; a NaN is the one NaN.
func TestHalveOfAnyValues(t *testing.T) {
	for _, v := range []api.Value{
		{}, number(0), number(minusZero), number(nan), number(math.Inf(-1)), words("x"), words(strings.Repeat("t", 65)),
		{Num: 1}, {Num: minusZero, Text: "x"}, {Kind: 2, Num: nan}, {Kind: 77}, {Kind: -1, Num: 2, Text: "x"}, {Kind: math.MaxInt},
	} {
		l := []api.Write{{Key: "a", Value: v}, {Key: "b", Value: v}}
		halved(t, l, 0.5, l[1:], l[:1])
	}
	for _, x := range []float64{otherNaN, minusNaN, -otherNaN} {
		for kind := -1; kind < 4; kind++ {
			l := []api.Write{{Key: "a", Value: api.Value{Kind: kind, Num: x}}, {Key: "b", Value: api.Value{Kind: kind, Num: x}}}
			one := api.Value{Kind: kind, Num: nan}
			halved(t, l, 0.5, []api.Write{{Key: "b", Value: one}}, []api.Write{{Key: "a", Value: one}})
		}
	}
}
