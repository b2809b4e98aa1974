package hlc_test

import (
	"fmt"
	"math"
	"math/rand"
	"slices"
	"testing"

	"headrace/api"
	"headrace/hlc"
)

// P8.3

// clock returns the clock of a node and a floor that are right.
func clock(t *testing.T, node int, floor api.Stamp) *hlc.Clock {
	t.Helper()
	c, e := hlc.New(node, floor)
	if c == nil || e != api.OK {
		t.Fatalf("P8.3: New(%d, %v) is %v, %d", node, floor, c, e)
	}
	return c
}

// holdNow holds Now(phys) of the clock, and Peek(phys) before it, to the stamp, the error, and what is Last then.
func holdNow(t *testing.T, c *hlc.Clock, phys int, want api.Stamp, e api.Errno) {
	t.Helper()
	last := c.Last()
	for range 2 {
		if got, ge := c.Peek(phys); got != want || ge != e {
			t.Errorf("P8.3: Peek(%d) behind %v is %v, %d, not %v, %d", phys, last, got, ge, want, e)
		}
		if c.Last() != last {
			t.Errorf("P8.3: Peek(%d) changes Last from %v to %v", phys, last, c.Last())
		}
	}
	if got, ge := c.Now(phys); got != want || ge != e {
		t.Errorf("P8.3: Now(%d) behind %v is %v, %d, not %v, %d", phys, last, got, ge, want, e)
	}
	if e == api.OK {
		last = want
	}
	if c.Last() != last {
		t.Errorf("P8.3: Last is %v behind Now(%d), not %v", c.Last(), phys, last)
	}
}

// holdObserve holds Observe(s) of the clock to the error and to what is Last then.
func holdObserve(t *testing.T, c *hlc.Clock, s api.Stamp, e api.Errno, last api.Stamp) {
	t.Helper()
	if got := c.Observe(s); got != e || c.Last() != last {
		t.Errorf("P8.3: Observe(%v) is %d, and Last %v, not %d and %v", s, got, c.Last(), e, last)
	}
}

func TestClockOfTheExamples(t *testing.T) {
	c := clock(t, 3, stamp(5, 0, 9))
	if c.Last() != stamp(5, 0, 3) {
		t.Errorf("P8.3: Last of a new clock is %v", c.Last())
	}
	holdNow(t, c, 2, stamp(5, 1, 3), api.OK)
	holdNow(t, c, 7, stamp(7, 0, 3), api.OK)
	holdNow(t, c, 7, stamp(7, 1, 3), api.OK)
	holdObserve(t, c, stamp(7, 65535, 1), api.OK, stamp(7, 65535, 3))
	holdNow(t, c, 7, api.Stamp{}, api.ErrLogical)
	holdNow(t, c, 8, stamp(8, 0, 3), api.OK)
	holdNow(t, c, 1<<48+1, api.Stamp{}, api.ErrWall)
}

func TestNew(t *testing.T) {
	valid := validStamps()
	for _, node := range []int{math.MinInt, -1, 0, 1, 2, 31, 62, 63, 64, 65, math.MaxInt} {
		for _, floor := range allStamps() {
			var e api.Errno
			var last api.Stamp
			switch {
			case node < 1 || node > 63:
				e = api.ErrRange
			case !slices.Contains(valid, floor):
				e = api.ErrStamp
			default:
				last = stamp(floor.Wall, floor.Logical, node)
			}
			c, got := hlc.New(node, floor)
			if got != e || (c != nil) != (e == api.OK) {
				t.Fatalf("P8.3: New(%d, %v) is %v, %d, not %d", node, floor, c, got, e)
			}
			if c != nil && c.Last() != last {
				t.Errorf("P8.3: Last of New(%d, %v) is %v", node, floor, c.Last())
			}
		}
	}
}

func TestNowAtTheEdgesOfPhys(t *testing.T) {
	// phys below, at and above the Wall of Last
	c := clock(t, 9, stamp(100, 3, 0))
	holdNow(t, c, math.MinInt, stamp(100, 4, 9), api.OK)
	holdNow(t, c, -1, stamp(100, 5, 9), api.OK)
	holdNow(t, c, 0, stamp(100, 6, 9), api.OK)
	holdNow(t, c, 99, stamp(100, 7, 9), api.OK)
	holdNow(t, c, 100, stamp(100, 8, 9), api.OK)
	holdNow(t, c, 101, stamp(101, 0, 9), api.OK)
	holdNow(t, c, 1<<48-1, stamp(1<<48-1, 0, 9), api.OK)
	holdNow(t, c, 1<<48, stamp(1<<48, 0, 9), api.OK)
	holdNow(t, c, 1<<48, stamp(1<<48, 1, 9), api.OK)
	holdNow(t, c, 1<<48+1, api.Stamp{}, api.ErrWall)
	holdNow(t, c, math.MaxInt, api.Stamp{}, api.ErrWall)
	holdNow(t, c, 5, stamp(1<<48, 2, 9), api.OK)
}

func TestNowOfANegativePhysAtNought(t *testing.T) {
	for _, phys := range []int{math.MinInt, -1 << 48, -1, 0} {
		c := clock(t, 1, api.Stamp{})
		holdNow(t, c, phys, stamp(0, 1, 1), api.OK)
		holdNow(t, c, phys, stamp(0, 2, 1), api.OK)
		holdNow(t, c, 1, stamp(1, 0, 1), api.OK)
	}
}

func TestTicksOfOneMoment(t *testing.T) {
	c := clock(t, 63, stamp(4, 65533, 63))
	holdNow(t, c, 4, stamp(4, 65534, 63), api.OK)
	holdNow(t, c, -4, stamp(4, 65535, 63), api.OK)
	for _, phys := range []int{math.MinInt, -1, 0, 3, 4} {
		holdNow(t, c, phys, api.Stamp{}, api.ErrLogical)
	}
	// ErrWall is told ahead of ErrLogical
	holdNow(t, c, 1<<48+1, api.Stamp{}, api.ErrWall)
	holdNow(t, c, 5, stamp(5, 0, 63), api.OK)
}

func TestClockAtItsEnd(t *testing.T) {
	c := clock(t, 2, stamp(1<<48, 65535, 63))
	holdNow(t, c, 1<<48, api.Stamp{}, api.ErrLogical)
	holdNow(t, c, 0, api.Stamp{}, api.ErrLogical)
	holdNow(t, c, 1<<48+1, api.Stamp{}, api.ErrWall)
	holdNow(t, c, math.MaxInt, api.Stamp{}, api.ErrWall)
	holdObserve(t, c, stamp(1<<48, 65535, 63), api.OK, stamp(1<<48, 65535, 2))
}

func TestObserve(t *testing.T) {
	last := stamp(50, 500, 30)
	for _, c := range []struct{ s, last api.Stamp }{
		{stamp(50, 500, 30), last}, {stamp(50, 500, 0), last}, {stamp(50, 500, 29), last},
		{stamp(50, 500, 31), last}, {stamp(50, 500, 63), last}, // the Node counts for nothing
		{stamp(50, 499, 63), last}, {stamp(49, 65535, 63), last}, {stamp(49, 501, 63), last}, {stamp(0, 0, 0), last},
		{stamp(50, 501, 0), stamp(50, 501, 30)}, {stamp(50, 501, 63), stamp(50, 501, 30)}, {stamp(50, 65535, 1), stamp(50, 65535, 30)},
		{stamp(51, 0, 0), stamp(51, 0, 30)}, {stamp(51, 499, 63), stamp(51, 499, 30)}, {stamp(1<<48, 65535, 63), stamp(1<<48, 65535, 30)},
	} {
		holdObserve(t, clock(t, 30, last), c.s, api.OK, c.last)
	}
}

func TestObserveOfStampsThatAreNotValid(t *testing.T) {
	valid := validStamps()
	c := clock(t, 30, stamp(50, 500, 0))
	for _, s := range allStamps() {
		if !slices.Contains(valid, s) {
			holdObserve(t, c, s, api.ErrStamp, stamp(50, 500, 30))
		}
	}
	holdNow(t, c, 50, stamp(50, 501, 30), api.OK)
}

// model is a clock as the chapter tells it, number by number.
type model struct{ wall, logical, node int }

func (m *model) now(phys int) (api.Stamp, api.Errno) {
	if phys < 0 {
		phys = 0
	}
	if phys > 281474976710656 {
		return api.Stamp{}, api.ErrWall
	}
	if phys > m.wall {
		m.wall, m.logical = phys, 0
		return stamp(m.wall, m.logical, m.node), api.OK
	}
	if m.logical+1 > 65535 {
		return api.Stamp{}, api.ErrLogical
	}
	m.logical++
	return stamp(m.wall, m.logical, m.node), api.OK
}

func (m *model) observe(s api.Stamp) api.Errno {
	if s.Wall < 0 || s.Wall > 281474976710656 || s.Logical < 0 || s.Logical > 65535 || s.Node < 0 || s.Node > 63 {
		return api.ErrStamp
	}
	if s.Wall > m.wall || s.Wall == m.wall && s.Logical > m.logical {
		m.wall, m.logical = s.Wall, s.Logical
	}
	return api.OK
}

// pick is a number near n, or at an edge, or far out.
func pick(r *rand.Rand, n, most int) int {
	switch r.Intn(8) {
	case 0:
		l := edges(most)
		return l[r.Intn(len(l))]
	case 1:
		return r.Intn(most + 1)
	default:
		return n + r.Intn(7) - 3
	}
}

// calm is as pick, but mostly keeps below the end, so that a clock has room to go on.
func calm(r *rand.Rand, n, most int) int {
	if x := pick(r, n, most); x < most/2 || r.Intn(40) == 0 {
		return x
	}
	return n
}

func TestRandomCallsToAModel(t *testing.T) {
	r := rand.New(rand.NewSource(8))
	for range 400 {
		node := 1 + r.Intn(63)
		floor := stamp(r.Intn(30), r.Intn(3)*32767, r.Intn(64))
		m := &model{floor.Wall, floor.Logical, node}
		c := clock(t, node, floor)
		for range 60 {
			if r.Intn(2) == 0 {
				phys := calm(r, m.wall, 1<<48)
				want, e := m.now(phys)
				holdNow(t, c, phys, want, e)
			} else {
				s := stamp(calm(r, m.wall, 1<<48), pick(r, m.logical, 65535), pick(r, m.node, 63))
				e := m.observe(s)
				holdObserve(t, c, s, e, stamp(m.wall, m.logical, m.node))
			}
			if t.Failed() {
				t.Fatalf("the model is at %v", *m)
			}
		}
	}
}

func TestClocksAreApart(t *testing.T) {
	a, b := clock(t, 1, stamp(5, 5, 5)), clock(t, 1, stamp(5, 5, 5))
	holdNow(t, a, 9, stamp(9, 0, 1), api.OK)
	holdObserve(t, a, stamp(20, 0, 0), api.OK, stamp(20, 0, 1))
	holdNow(t, b, 5, stamp(5, 6, 1), api.OK)
	s, floor := a.Last(), stamp(3, 3, 3)
	s.Wall, s.Node = 99, 9
	c := clock(t, 1, floor)
	floor.Wall = 99
	if a.Last() != stamp(20, 0, 1) || c.Last() != stamp(3, 3, 1) {
		t.Errorf("P0.4: Last is %v and %v", a.Last(), c.Last())
	}
}

// P8.4

func TestStampsIncreaseAndFollow(t *testing.T) {
	r := rand.New(rand.NewSource(84))
	for range 200 {
		node := 1 + r.Intn(63)
		greatest := stamp(r.Intn(20), r.Intn(5), r.Intn(64))
		c := clock(t, node, greatest)
		walls := []int{greatest.Wall}
		for range 100 {
			if r.Intn(3) == 0 {
				s := stamp(r.Intn(60), r.Intn(5), r.Intn(64))
				if e := c.Observe(s); e != api.OK {
					t.Fatalf("P8.3: Observe(%v) is %d", s, e)
				}
				walls = append(walls, s.Wall)
				if compareByFields(s, greatest) > 0 {
					greatest = s
				}
				continue
			}
			phys := r.Intn(60)
			s, e := c.Now(phys)
			if e != api.OK || compareByFields(s, greatest) <= 0 {
				t.Fatalf("P8.4: Now(%d) is %v, %d, behind %v", phys, s, e, greatest)
			}
			if s.Node != node || s.Wall != phys && !slices.Contains(walls, s.Wall) {
				t.Fatalf("P8.4: Now(%d) of node %d is %v", phys, node, s)
			}
			greatest = s
			walls = append(walls, phys)
		}
	}
}

func TestClocksOfDifferentNodesNeverAgree(t *testing.T) {
	r := rand.New(rand.NewSource(48))
	clocks := make([]*hlc.Clock, 63)
	for i := range clocks {
		clocks[i] = clock(t, i+1, stamp(1, 1, r.Intn(64)))
	}
	owner := map[api.Stamp]string{}
	for i := range 20000 {
		n := r.Intn(len(clocks))
		s, e := clocks[n].Now(i / 1000)
		if e != api.OK || s.Node != n+1 {
			t.Fatalf("P8.4: Now of node %d is %v, %d", n+1, s, e)
		}
		if whose, twice := owner[s]; twice {
			t.Fatalf("P8.4: %v is of %s and of node %d", s, whose, n+1)
		}
		owner[s] = fmt.Sprintf("node %d", n+1)
		if e := clocks[r.Intn(len(clocks))].Observe(s); e != api.OK {
			t.Fatalf("P8.3: Observe(%v) is %d", s, e)
		}
	}
}
