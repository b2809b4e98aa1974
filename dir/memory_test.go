package dir_test

import (
	"slices"
	"testing"

	"headrace/api"
	"headrace/dir"
)

// P14.4

// spoil writes into a list, and behind its end as far as it has room.
func spoil[E any](l []E, with E) {
	l = l[:cap(l)]
	for i := range l {
		l[i] = with
	}
}

// spoilt is a range that no directory has.
var spoilt = api.Range{ID: 11, Epoch: 77, Lo: 0.125, Hi: 0.875}

func TestRangesAreNeitherChangedNorKept(t *testing.T) {
	for n := 1; n <= api.MaxRanges; n++ {
		l := even(t, n)
		held := append(slices.Clone(l), spoilt, spoilt)
		slices.Reverse(held[:n])
		before := slices.Clone(held)
		d := made(t, held[:n]...)
		if !slices.Equal(held, before) {
			t.Fatalf("P14.4: New changes %+v to %+v", before, held)
		}
		spoil(held, spoilt)
		has(t, "P14.4: after a New", d, l...)
	}
	d := made(t, api.Range{ID: 2, Hi: 1})
	held := []api.Range{{ID: 5, Hi: 1}, {ID: 3, Hi: 1}, {ID: 5, Epoch: 1, Hi: 0.5}, spoilt}
	before := slices.Clone(held)
	learns(t, "P14.2", d, 3, held[:3]...)
	if !slices.Equal(held, before) {
		t.Fatalf("P14.4: Learn changes %+v to %+v", before, held)
	}
	spoil(held, spoilt)
	has(t, "P14.4: after a Learn", d, api.Range{ID: 2, Hi: 1}, before[1], before[2])
}

func TestListsAreNewMemory(t *testing.T) {
	for n := 1; n <= api.MaxRanges; n++ {
		l := even(t, n)
		d := made(t, l...)
		a, b := d.List(), d.List()
		spoil(append(a, spoilt), spoilt)
		spoil(a, spoilt)
		if !slices.Equal(b, l) {
			t.Fatalf("P14.4: the other list is %+v", b)
		}
		has(t, "P14.4: after a List", d, l...)
	}
}

func TestListsAreNotKept(t *testing.T) {
	d := made(t, even(t, 1)...)
	l := d.List()
	learns(t, "P14.2", d, 2, api.Range{ID: 1, Epoch: 1, Hi: 0.5}, api.Range{ID: 2, Lo: 0.5, Hi: 1})
	if !slices.Equal(l, even(t, 1)) {
		t.Errorf("P14.4: Learn changes an earlier list to %+v", l)
	}
}

func TestKeysAreNeitherChangedNorKept(t *testing.T) {
	d := made(t, even(t, 5)...)
	held := slices.Concat(keys(30), keys(9), []string{"behind"})
	before := slices.Clone(held)
	passed := held[:39]
	first, _ := d.Group(passed)
	if !slices.Equal(held, before) {
		t.Fatalf("P14.4: Group changes %q to %q", before, held)
	}
	second, _ := d.Group(passed)
	spoil(held, "spoilt")
	grouped(t, "P14.4: the other result", d, before[:39], first...)
	for i := range first {
		spoil(append(first[i].Keys, "more"), "spoilt")
		spoil(first[i].Keys, "spoilt")
		for k := i + 1; k < len(first); k++ {
			if !slices.Equal(first[k].Keys, second[k].Keys) {
				t.Fatalf("P14.4: the keys of another group are %q", first[k].Keys)
			}
		}
	}
	spoil(append(first, dir.Group{Range: spoilt}), dir.Group{Range: spoilt})
	spoil(first, dir.Group{Range: spoilt})
	grouped(t, "P14.4: the other result", d, before[:39], second...)
	has(t, "P14.4: after a Group", d, even(t, 5)...)
}

func TestOneKeyIsNewMemory(t *testing.T) {
	d := made(t, even(t, 1)...)
	passed := []string{"a"}
	l, _ := d.Group(passed)
	spoil(l[0].Keys, "spoilt")
	if passed[0] != "a" {
		t.Error("P14.4: the keys of a group are the argument")
	}
	grouped(t, "P14.4", d, passed, dir.Group{Range: even(t, 1)[0], Keys: []string{"a"}})
}
