package hand_test

import (
	"fmt"
	"slices"
	"strings"
	"testing"

	"headrace/api"
	"headrace/hand"
)

// held is a list that somebody has: its text is that of its own elements, behind its end as well, and without what
// lists in them have.
type held struct {
	name  string
	text  func() string
	spoil func()
}

// hold makes a list held.
func hold[E any](name string, l []E, text func(E) string, with E) held {
	whole := l[:cap(l)]
	tell := func() string {
		var b strings.Builder
		for _, one := range whole {
			b.WriteString(text(one))
		}
		return b.String()
	}
	spoil := func() {
		for i := range whole {
			whole[i] = with
		}
	}
	return held{name, tell, spoil}
}

func holdWrites(name string, l []api.Write) held {
	return hold(name, l, func(w api.Write) string { return writesText([]api.Write{w}) }, put("spoilt", 77))
}

// lists holds all lists of a state.
func lists(name string, s api.State) []held {
	l := []held{
		hold(name+" Histories", s.Histories, func(h api.History) string { return fmt.Sprintf("%q %d ", h.Key, len(h.Versions)) }, once("spoilt", 7)),
		hold(name+" Pending", s.Pending, func(p api.Pending) string { return fmt.Sprint(p.Txn, p.Stamp, len(p.Reads), len(p.Writes)) }, api.Pending{Txn: txn(77)}),
	}
	for _, h := range s.Histories {
		l = append(l, hold(name+" Versions of "+h.Key, h.Versions, func(v api.Version) string { return fmt.Sprint(v.Stamp, valueText(v.Value)) }, api.Version{Stamp: moment(77)}))
	}
	for _, p := range s.Pending {
		l = append(l, hold(name+" Reads", p.Reads, func(key string) string { return fmt.Sprintf("%q", key) }, "spoilt"), holdWrites(name+" Writes", p.Writes))
	}
	return l
}

// texts tells all lists.
func texts(l []held) []string {
	var all []string
	for _, h := range l {
		all = append(all, h.text())
	}
	return all
}

// apart spoils the lists one after the other, and holds the others to what they were.
func apart(t *testing.T, lists []held) {
	t.Helper()
	for i, spoilt := range lists {
		before := texts(lists)
		spoilt.spoil()
		after := texts(lists)
		for k := range lists {
			if k != i && after[k] != before[k] {
				t.Fatalf("P15.4: what is written into %s changes %s from %s to %s", spoilt.name, lists[k].name, before[k], after[k])
			}
		}
	}
}

// unchanged holds lists to their texts.
func unchanged(t *testing.T, lists []held, before []string) {
	t.Helper()
	for i, now := range texts(lists) {
		if now != before[i] {
			t.Fatalf("P15.4: %s is changed from %s to %s", lists[i].name, before[i], now)
		}
	}
}

// roomy returns a list with room behind its end that is not empty.
func roomy[E any](l []E, behind E) []E {
	return append(slices.Clone(l), behind, behind)[:len(l)]
}

// roomyState returns the state in memory of its own, with room behind all lists.
func roomyState(s api.State) api.State {
	s.Histories = roomy(s.Histories, once("behind", 1))
	for i := range s.Histories {
		s.Histories[i].Versions = roomy(s.Histories[i].Versions, api.Version{Stamp: moment(9)})
	}
	s.Pending = roomy(s.Pending, api.Pending{Txn: txn(8)})
	for i := range s.Pending {
		s.Pending[i].Reads = roomy(s.Pending[i].Reads, "behind")
		s.Pending[i].Writes = roomy(s.Pending[i].Writes, put("behind", 1))
	}
	return s
}

// P15.4
func TestMemoryOfDivide(t *testing.T) {
	for _, point := range []float64{0.1, 0.3, placeB, 0.5, 0.7, 0.9} {
		s := roomyState(busy())
		given := lists("the argument", s)
		before := texts(given)
		left, right := halves(t, "P15.1", at(s, point))
		otherLeft, otherRight := halves(t, "P15.1", at(s, point))
		unchanged(t, given, before)
		all := slices.Concat(given, lists("left", left), lists("right", right), lists("another left", otherLeft), lists("another right", otherRight))
		apart(t, all)
	}
}

// P15.4
func TestDivideKeepsNothing(t *testing.T) {
	s := roomyState(busy())
	left, right := halves(t, "P15.1", at(s, 0.5))
	wasLeft, wasRight := text(left), text(right)
	for _, l := range lists("the argument", s) {
		l.spoil()
	}
	if text(left) != wasLeft || text(right) != wasRight {
		t.Errorf("P15.4: the halves have become %s and %s", text(left), text(right))
	}
}

// P15.4: an error changes nothing either.
func TestMemoryBesideErrors(t *testing.T) {
	s := roomyState(busy())
	given := lists("the argument", s)
	before := texts(given)
	refuses(t, "P15.1", at(s, 0), api.ErrNarrow)
	refuses(t, "P15.1", at(s, nan), api.ErrRange)
	refuses(t, "P15.1", cut{s, 0.5, 2, badStamps()[0], moment(1)}, api.ErrStamp)
	parts(t, "P15.3", s, s, api.ErrState)
	left, right := both(t)
	right.Pending[1].Stamp.Wall--
	left, right = roomyState(left), roomyState(right)
	given = slices.Concat(given, lists("left", left), lists("right", right))
	before = append(before, texts(given[len(before):])...)
	parts(t, "P15.3", left, right, api.ErrState)
	right.Floor.Wall = -1
	parts(t, "P15.3", left, right, api.ErrForm)
	unchanged(t, given, before)
}

// P15.4
func TestMemoryOfHalve(t *testing.T) {
	values := []api.Write{put("a", otherNaN), put("b", minusNaN), put("d", otherNaN), put("c", otherNaN), put("", otherNaN)}
	for _, writes := range [][]api.Write{ascending(), values, values[:1], values[1:2], nil} {
		for _, point := range []float64{0, 0.3, 0.5, 1, nan} {
			l := roomy(writes, put("behind", otherNaN))
			given := []held{holdWrites("the argument", l)}
			before := texts(given)
			left, right := hand.Halve(l, point)
			otherLeft, otherRight := hand.Halve(l, point)
			unchanged(t, given, before)
			apart(t, append(given, holdWrites("left", left), holdWrites("right", right), holdWrites("another left", otherLeft), holdWrites("another right", otherRight)))
		}
	}
}

// P15.4
func TestMemoryOfRejoin(t *testing.T) {
	for _, point := range []float64{0.1, 0.3, 0.5, 0.7, 0.9} {
		left, right := halves(t, "P15.1", at(busy(), point))
		left, right = roomyState(left), roomyState(right)
		given := slices.Concat(lists("left", left), lists("right", right))
		before := texts(given)
		first, _ := hand.Rejoin(left, right)
		second, _ := hand.Rejoin(left, right)
		unchanged(t, given, before)
		is(t, "P15.5", first, busy())
		apart(t, slices.Concat(lists("a result", first), lists("another result", second), given))

		left, right = halves(t, "P15.1", at(busy(), point))
		left, right = roomyState(left), roomyState(right)
		first, _ = hand.Rejoin(left, right)
		for _, l := range slices.Concat(lists("left", left), lists("right", right)) {
			l.spoil()
		}
		is(t, "P15.4: after its halves were spoilt", first, busy())
	}
}
