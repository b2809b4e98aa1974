package dir_test

import (
	"math"
	"slices"
	"strconv"
	"strings"
	"testing"

	"headrace/api"
	"headrace/dir"
	"headrace/place"
)

// routed holds the Route of a key to a range.
func routed(t *testing.T, what string, d *dir.Dir, key string, want api.Range) {
	t.Helper()
	if r, ok := d.Route(key); !ok || r != want {
		t.Fatalf("%s: Route(%q) is %+v, %t, not %+v", what, key, r, ok, want)
	}
}

// unrouted holds the Route of a key to false.
func unrouted(t *testing.T, what string, d *dir.Dir, key string) {
	t.Helper()
	if r, ok := d.Route(key); ok || r != (api.Range{}) {
		t.Fatalf("%s: Route(%q) is %+v, %t, where there is none", what, key, r, ok)
	}
}

// grouped holds a Group to what is wanted.
func grouped(t *testing.T, what string, d *dir.Dir, keys []string, want ...dir.Group) {
	t.Helper()
	got, e := d.Group(keys)
	expect(t, what, api.OK, e)
	same := func(a, b dir.Group) bool { return a.Range == b.Range && slices.Equal(a.Keys, b.Keys) }
	if !slices.EqualFunc(got, want, same) {
		t.Fatalf("%s: Group(%q) is %+v, not %+v", what, keys, got, want)
	}
}

// refused holds a Group to an error.
func refused(t *testing.T, what string, d *dir.Dir, want api.Errno, keys ...string) {
	t.Helper()
	l, e := d.Group(keys)
	expect(t, what, want, e)
	if len(l) != 0 {
		t.Fatalf("%s: Group(%q) is %+v beside an error", what, keys, l)
	}
}

// keys lists n keys, whose places lie all over.
func keys(n int) []string {
	var l []string
	for i := range n {
		l = append(l, "key "+strconv.Itoa(i))
	}
	return l
}

// oddKeys lists keys of the least and the greatest length, and of all kinds of bytes.
func oddKeys() []string {
	l := []string{strings.Repeat("k", api.MaxKey), strings.Repeat("\x00", api.MaxKey), strings.Repeat("\xff", api.MaxKey), "\x00\x00", "é"}
	for c := range 256 {
		l = append(l, string([]byte{byte(c)}))
	}
	return l
}

// notKeys lists strings that are no keys.
func notKeys() []string {
	return []string{"", strings.Repeat("k", api.MaxKey+1), strings.Repeat("é", api.MaxKey/2+1), strings.Repeat("k", 1<<12)}
}

// The place of a is about 0.510, and the one of b 0.431; the one of c is 0.465, and the one of e 0.222.
const (
	placeA = 0x1.054552b1537d9p-1
	placeB = 0x1.b99cca21d92b4p-2
)

// P14.3

func TestRoute(t *testing.T) {
	for n := 1; n <= api.MaxRanges; n++ {
		l := even(t, n)
		d := made(t, l...)
		for _, key := range slices.Concat(keys(100), oddKeys()) {
			routed(t, "P14.3", d, key, l[int(place.Of(key)*float64(n))])
		}
		for _, key := range notKeys() {
			unrouted(t, "P14.3: no key", d, key)
		}
	}
}

func TestRouteAtTheEdges(t *testing.T) {
	if place.Of("a") != placeA || place.Of("b") != placeB {
		t.Fatalf("P4.1: the places %x, %x", place.Of("a"), place.Of("b"))
	}
	from := api.Range{ID: 2, Lo: placeA, Hi: 1}
	to := api.Range{ID: 1, Hi: placeA}
	routed(t, "P14.3: Lo is in the range", made(t, from, to), "a", from)
	after := math.Nextafter(placeA, 1)
	from.Lo, to.Hi = after, after
	routed(t, "P14.3: Hi is not", made(t, from, to), "a", to)
	d := made(t, from, to)
	alone := api.Range{ID: 3, Lo: placeA, Hi: after}
	learns(t, "P14.2", d, 1, alone)
	routed(t, "P14.3: a single place", d, "a", alone)
	routed(t, "P14.3", d, "b", to)
}

func TestRouteToTheGreatestID(t *testing.T) {
	whole := func(id int) api.Range { return api.Range{ID: id, Epoch: api.MaxRanges - id, Hi: 1} }
	l := []api.Range{{ID: 6, Epoch: 99, Hi: 1}}
	d := made(t, l...)
	for _, id := range []int{2, 9, 1, 7, 12, 10, 3, 11, 4, 5, 8} {
		learns(t, "P14.2", d, 1, whole(id))
		l = append(l, whole(id))
		greatest := slices.MaxFunc(l, func(a, b api.Range) int { return a.ID - b.ID })
		for _, key := range keys(20) {
			routed(t, "P14.3: of several ranges", d, key, greatest)
		}
	}
	// Neither the epoch counts, nor how long a range is, nor where it begins.
	d = made(t, api.Range{ID: 1, Epoch: 8, Hi: placeA}, api.Range{ID: 2, Epoch: 8, Lo: placeA, Hi: 1})
	child := api.Range{ID: 3, Lo: 0.25, Hi: 0.75}
	learns(t, "P14.2", d, 2, child, api.Range{ID: 12, Lo: 0.75, Hi: 1})
	routed(t, "P14.3", d, "a", child)
	routed(t, "P14.3", d, "b", child)
	child = api.Range{ID: 3, Epoch: 1, Lo: 0.25, Hi: placeB}
	learns(t, "P14.2", d, 1, child)
	routed(t, "P14.3: after a replacement", d, "a", api.Range{ID: 2, Epoch: 8, Lo: placeA, Hi: 1})
	routed(t, "P14.3: after a replacement", d, "b", api.Range{ID: 1, Epoch: 8, Hi: placeA})
}

func TestRouteToNoRange(t *testing.T) {
	d := made(t, api.Range{ID: 1, Hi: 1})
	learns(t, "P14.2", d, 1, api.Range{ID: 1, Epoch: 1, Lo: 0.5, Hi: placeA})
	for _, key := range append(keys(50), "a", "b") {
		unrouted(t, "P14.3: no range has the place", d, key)
	}
	learns(t, "P14.2", d, 1, api.Range{ID: 12, Lo: placeA, Hi: math.Nextafter(placeA, 1)})
	routed(t, "P14.3", d, "a", api.Range{ID: 12, Lo: placeA, Hi: math.Nextafter(placeA, 1)})
	unrouted(t, "P14.3: no range has the place", d, "b")
}

func TestGroup(t *testing.T) {
	low, high := api.Range{ID: 4, Epoch: 2, Hi: 0.5}, api.Range{ID: 2, Lo: 0.5, Hi: 1}
	d := made(t, low, high)
	grouped(t, "P14.3: no keys", d, nil)
	grouped(t, "P14.3: no keys", d, []string{})
	grouped(t, "P14.3: one key", d, []string{"a"}, dir.Group{Range: high, Keys: []string{"a"}})
	grouped(t, "P14.3: one key, twice", d, []string{"b", "b"}, dir.Group{Range: low, Keys: []string{"b"}})
	both := []dir.Group{{Range: high, Keys: []string{"a"}}, {Range: low, Keys: []string{"b"}}}
	grouped(t, "P14.3: by ID", d, []string{"a", "b"}, both...)
	grouped(t, "P14.3: by ID", d, []string{"b", "a"}, both...)
	grouped(t, "P14.3: each once", d, []string{"b", "a", "b", "b", "a"}, both...)
	both[1].Keys = []string{"c", "b"}
	grouped(t, "P14.3: the keys as passed", d, []string{"c", "b", "a", "c"}, both...)
	both[1].Keys = []string{"b", "c"}
	grouped(t, "P14.3: the keys as passed", d, []string{"b", "a", "c", "b"}, both...)
}

func TestGroupsOfManyKeys(t *testing.T) {
	all := slices.Concat(keys(300), oddKeys())
	backward := slices.Clone(all)
	slices.Reverse(backward)
	for n := 1; n <= api.MaxRanges; n++ {
		l := even(t, n)
		for i := range l {
			l[i].ID = i*5%api.MaxRanges + 1
		}
		d := made(t, l...)
		for _, passed := range [][]string{all, backward} {
			var want []dir.Group
			for _, r := range d.List() {
				here := func(key string) bool { return place.In(r, place.Of(key)) }
				want = append(want, dir.Group{Range: r, Keys: only(passed, here)})
			}
			grouped(t, "P14.3", d, passed, want...)
			grouped(t, "P14.3: each once", d, slices.Concat(passed, all, backward), want...)
		}
	}
}

// only lists the strings of which keep is true.
func only(l []string, keep func(string) bool) []string {
	return slices.DeleteFunc(slices.Clone(l), func(s string) bool { return !keep(s) })
}

func TestGroupTakesTheGreatestID(t *testing.T) {
	d := made(t, even(t, 4)...)
	child := api.Range{ID: 9, Lo: 0.25, Hi: 0.75}
	learns(t, "P14.2", d, 1, child)
	grouped(t, "P14.3", d, []string{"b", "a"}, dir.Group{Range: child, Keys: []string{"b", "a"}})
	grouped(t, "P14.3", d, []string{"a", "e", "b"}, dir.Group{Range: even(t, 4)[0], Keys: []string{"e"}}, dir.Group{Range: child, Keys: []string{"a", "b"}})
}

// The directory of these tests has no range for b.
func TestGroupErrors(t *testing.T) {
	low, high := api.Range{ID: 1, Epoch: 1, Hi: 0.25}, api.Range{ID: 2, Lo: 0.5, Hi: 1}
	d := made(t, even(t, 2)...)
	learns(t, "P14.2", d, 1, low)
	for _, wrong := range notKeys() {
		refused(t, "P14.3: no key", d, api.ErrName, wrong)
		refused(t, "P14.3: no key", d, api.ErrName, "a", "e", wrong)
		refused(t, "P14.3: no key", d, api.ErrName, wrong, "a", "a")
		refused(t, "P14.3: no key, then no range", d, api.ErrName, "a", wrong, "b")
		refused(t, "P14.3: no range, then no key", d, api.ErrNone, "a", "b", wrong)
	}
	refused(t, "P14.3: no range", d, api.ErrNone, "b")
	refused(t, "P14.3: no range", d, api.ErrNone, "a", "e", "b")
	refused(t, "P14.3: no range", d, api.ErrNone, "b", "b", "a")
	has(t, "P0.2: what changes nothing", d, low, high)
	grouped(t, "P14.3", d, []string{"e", "a", "e"}, dir.Group{Range: low, Keys: []string{"e"}}, dir.Group{Range: high, Keys: []string{"a"}})
}
