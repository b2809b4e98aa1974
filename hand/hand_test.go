package hand_test

import (
	"fmt"
	"math"
	"strings"
	"testing"

	"headrace/api"
	"headrace/hand"
)

// The places of some keys, the least one first.
const (
	placeH = 0.1221
	placeE = 0.2222
	placeG = 0.2545
	placeB = 0x1.b99cca21d92b4p-2 // 0.4315
	placeC = 0.4650
	placeA = 0x1.054552b1537d9p-1 // 0.5103
	placeD = 0.6468
	placeF = 0.8614
)

var (
	nan       = math.Float64frombits(0x7FF8000000000000)
	otherNaN  = math.Float64frombits(0x7FF8000000000001)
	minusNaN  = math.Float64frombits(0xFFF8000000000000)
	minusZero = math.Copysign(0, -1)
	least     = math.SmallestNonzeroFloat64
	belowOne  = math.Nextafter(1, 0)
	belowHalf = math.Nextafter(0.5, 0)
	aboveHalf = math.Nextafter(0.5, 1)
)

// moment is the stamp {wall, 0, 1}.
func moment(wall int) api.Stamp { return api.Stamp{Wall: wall, Node: 1} }

func txn(seq int) api.Txn         { return api.Txn{Coord: 1, Life: 1, Seq: seq} }
func number(x float64) api.Value  { return api.Value{Kind: 1, Num: x} }
func words(s string) api.Value    { return api.Value{Kind: 2, Text: s} }
func everywhere(id int) api.Range { return api.Range{ID: id, Hi: 1} }
func empty(r api.Range) api.State { return api.State{Range: r} }
func put(key string, x float64) api.Write {
	return api.Write{Key: key, Value: number(x)}
}

// once is a history of one version, at the stamp {wall, 0, 1}.
func once(key string, wall int) api.History {
	return api.History{Key: key, Versions: []api.Version{{Stamp: moment(wall), Value: words(key)}}}
}

// goodStamps lists valid stamps.
func goodStamps() []api.Stamp {
	return []api.Stamp{{}, {Node: 63}, {Logical: 65535}, {Wall: 5, Node: 1}, {Wall: 1 << 48, Logical: 65535, Node: 63}}
}

// badStamps lists stamps that are not valid.
func badStamps() []api.Stamp {
	return []api.Stamp{{Wall: -1}, {Logical: -1}, {Node: -1}, {Wall: 1<<48 + 1}, {Logical: 65536}, {Node: 64}, {Wall: math.MinInt}, {Wall: 5, Logical: math.MaxInt}, {Wall: 5, Node: math.MinInt}}
}

// badStates lists states that are not valid. All of them have most of the range 1, and no keys in its upper half.
func badStates() []api.State {
	b := everywhere(1)
	reader := api.Pending{Txn: txn(1), Stamp: moment(5), Reads: []string{"b"}}
	writer := api.Pending{Txn: txn(2), Stamp: moment(5), Writes: []api.Write{put("b", 1)}}
	l := []api.State{{}, empty(everywhere(0)), empty(everywhere(13)), empty(everywhere(-1)), empty(api.Range{ID: 1, Epoch: -1, Hi: 1}), empty(api.Range{ID: 1}), empty(api.Range{ID: 1, Lo: 0.75, Hi: 0.5})}
	for _, x := range []float64{nan, minusZero, -least, math.Nextafter(1, 2), math.Inf(1)} {
		l = append(l, empty(api.Range{ID: 1, Lo: x, Hi: 1}), empty(api.Range{ID: 1, Hi: x}))
	}
	for _, s := range badStamps() {
		version := api.Version{Stamp: s, Value: number(1)}
		pending := api.Pending{Txn: txn(1), Stamp: s}
		l = append(l, api.State{Range: b, Floor: s}, api.State{Range: b, Closed: s}, api.State{Range: b, Pending: []api.Pending{pending}})
		l = append(l, api.State{Range: b, Histories: []api.History{{Key: "b", Versions: []api.Version{version}}}})
	}
	for _, h := range [][]api.History{
		{{Key: "b"}}, {once("", 1)}, {once(strings.Repeat("k", 25), 1)}, {once("b", 1), once("b", 2)}, {once("c", 1), once("b", 1)}, {{Key: "b", Versions: []api.Version{{}}}},
		{{Key: "b", Versions: []api.Version{{Stamp: moment(2)}, {Stamp: moment(2)}}}}, {{Key: "b", Versions: []api.Version{{Stamp: moment(2), Value: number(otherNaN)}}}},
		{{Key: "b", Versions: []api.Version{{Stamp: moment(2), Value: api.Value{Kind: 3}}}}},
	} {
		l = append(l, api.State{Range: b, Histories: h})
	}
	for _, p := range [][]api.Pending{
		{{Stamp: moment(1)}}, {{Txn: txn(1)}}, {{Txn: txn(1), Stamp: moment(1), Reads: []string{""}}}, {{Txn: txn(1), Stamp: moment(1), Reads: []string{"c", "b"}}}, {{Txn: txn(1), Stamp: moment(1), Writes: []api.Write{put("b", otherNaN)}}},
		{{Txn: txn(1), Stamp: moment(1), Writes: []api.Write{put("b", 1), put("b", 1)}}}, {reader, reader}, {reader, writer}, {writer, reader},
	} {
		l = append(l, api.State{Range: b, Pending: p})
	}
	l = append(l, api.State{Range: b, Histories: []api.History{once("b", 5)}, Pending: []api.Pending{writer}})
	// The place of the key is behind the range, at its end, or ahead of it.
	for _, r := range []api.Range{{ID: 1, Hi: 0.4}, {ID: 1, Hi: placeB}, {ID: 1, Lo: math.Nextafter(placeB, 1), Hi: 1}} {
		l = append(l, api.State{Range: r, Histories: []api.History{once("b", 1)}}, api.State{Range: r, Pending: []api.Pending{reader}}, api.State{Range: r, Pending: []api.Pending{writer}})
	}
	return l
}

// valueText tells all of a value, the bits of its float too.
func valueText(v api.Value) string {
	return fmt.Sprintf("%d/%x/%q", v.Kind, math.Float64bits(v.Num), v.Text)
}

func writesText(l []api.Write) string {
	var b strings.Builder
	for _, w := range l {
		fmt.Fprintf(&b, " %q=%s", w.Key, valueText(w.Value))
	}
	return b.String()
}

func historyText(h api.History) string {
	var b strings.Builder
	fmt.Fprintf(&b, "\n %q:", h.Key)
	for _, v := range h.Versions {
		fmt.Fprintf(&b, " %v=%s", v.Stamp, valueText(v.Value))
	}
	return b.String()
}

func pendingText(p api.Pending) string {
	return fmt.Sprintf("\n %v at %v reads %q writes%s", p.Txn, p.Stamp, append([]string{}, p.Reads...), writesText(p.Writes))
}

// text tells all of a state.
func text(s api.State) string {
	var b strings.Builder
	r := s.Range
	fmt.Fprintf(&b, "%d.%d %x %x %v %v", r.ID, r.Epoch, math.Float64bits(r.Lo), math.Float64bits(r.Hi), s.Floor, s.Closed)
	for _, h := range s.Histories {
		b.WriteString(historyText(h))
	}
	for _, p := range s.Pending {
		b.WriteString(pendingText(p))
	}
	return b.String()
}

// is holds a state to the one that is wanted.
func is(t *testing.T, what string, got, want api.State) {
	t.Helper()
	if text(got) != text(want) {
		t.Fatalf("%s: the state is %s\nnot %s", what, text(got), text(want))
	}
}

// cut is a call of Divide.
type cut struct {
	s            api.State
	point        float64
	child        int
	stamp, floor api.Stamp
}

// at is a cut of the state, with the child 2 and ordinary stamps.
func at(s api.State, point float64) cut {
	return cut{s: s, point: point, child: 2, stamp: moment(40), floor: api.Stamp{Wall: 50}}
}

func (c cut) divide() (api.State, api.State, api.Errno) {
	return hand.Divide(c.s, c.point, c.child, c.stamp, c.floor)
}

func (c cut) text() string {
	return fmt.Sprintf("Divide(%s\n, %v, %d, %v, %v)", text(c.s), c.point, c.child, c.stamp, c.floor)
}

// halves makes a cut that has no error.
func halves(t *testing.T, what string, c cut) (api.State, api.State) {
	t.Helper()
	left, right, e := c.divide()
	if e != api.OK {
		t.Fatalf("%s: %s: error %d", what, c.text(), e)
	}
	return left, right
}

// divides holds a cut to its results, and the results to P15.5.
func divides(t *testing.T, what string, c cut, left, right api.State) {
	t.Helper()
	gotLeft, gotRight := halves(t, what, c)
	is(t, what+": left of "+c.text(), gotLeft, left)
	is(t, what+": right of "+c.text(), gotRight, right)
	rejoins(t, "P15.5: after "+c.text(), gotLeft, gotRight, c.s)
}

// refuses holds a cut to its error.
func refuses(t *testing.T, what string, c cut, want api.Errno) {
	t.Helper()
	left, right, e := c.divide()
	if e != want {
		t.Fatalf("%s: %s: error %d, not %d", what, c.text(), e, want)
	}
	is(t, what+": beside an error", left, api.State{})
	is(t, what+": beside an error", right, api.State{})
}

// rejoins holds Rejoin to the state that it makes.
func rejoins(t *testing.T, what string, left, right, want api.State) {
	t.Helper()
	s, e := hand.Rejoin(left, right)
	if e != api.OK {
		t.Fatalf("%s: Rejoin(%s\n, %s): error %d", what, text(left), text(right), e)
	}
	is(t, what+": Rejoin", s, want)
}

// parts holds Rejoin to its error.
func parts(t *testing.T, what string, left, right api.State, want api.Errno) {
	t.Helper()
	s, e := hand.Rejoin(left, right)
	if e != want {
		t.Fatalf("%s: Rejoin(%s\n, %s): error %d, not %d", what, text(left), text(right), e, want)
	}
	is(t, what+": beside an error", s, api.State{})
}

// P15.1, P15.5
func TestExamples(t *testing.T) {
	s := empty(everywhere(1))
	c := cut{s: s, point: 0.5, child: 2, stamp: moment(5), floor: api.Stamp{Wall: 9}}
	left := empty(api.Range{ID: 1, Epoch: 1, Hi: 0.5})
	right := api.State{Range: api.Range{ID: 2, Lo: 0.5, Hi: 1}, Floor: api.Stamp{Wall: 9}, Closed: moment(5)}
	divides(t, "P15.1", c, left, right)
	c.point = 0
	refuses(t, "P15.1", c, api.ErrNarrow)
	c.point, c.child = 0.5, 1
	refuses(t, "P15.1", c, api.ErrRange)
}
