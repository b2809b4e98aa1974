package disk_test

import (
	"math"
	"testing"

	"headrace/api"
	"headrace/disk"
)

// The examples of the chapter.

func TestExamples(t *testing.T) {
	d := disk.New()
	expect(t, "P6.2", api.OK, d.Create("a"))
	expect(t, "P6.2", api.ErrTwice, d.Create("a"))
	expect(t, "P6.2", api.ErrNone, d.Append("b", []byte("x")))
	expect(t, "P6.2", api.ErrName, d.Create(""))
	expect(t, "P6.2", api.OK, d.Append("a", []byte("12")), d.Sync("a"), d.Append("a", []byte("345")))
	d.Crash([]int{2})
	holds(t, "P6.4", d, file("a", "1234", ""))
	expect(t, "P6.2", api.OK, d.Append("a", []byte("56")))
	d.Crash([]int{7})
	holds(t, "P6.4", d, file("a", "12345", ""))
	d.Arm(2)
	expect(t, "P6.3", api.OK, d.Append("a", []byte("6")))
	expect(t, "P6.3", api.ErrDown, d.Append("a", []byte("7")), d.Sync("a"))
	stands(t, "P6.3", d, 6, true)
	holds(t, "P6.3", d, file("a", "12345", "67"))
	d.Crash([]int{1})
	holds(t, "P6.4", d, file("a", "123456", ""))
	stands(t, "P6.4", d, 6, false)
}

// P6.4

func TestCrashKeepsAPrefix(t *testing.T) {
	for loose := range 6 {
		for pick := range 20 {
			d := load(t, file("a", "safe", "12345"[:loose]))
			d.Crash([]int{pick})
			holds(t, "P6.4", d, file("a", "safe"+"12345"[:pick%(loose+1)], ""))
		}
	}
}

func TestCrashOfGreatAndNegativePicks(t *testing.T) {
	for _, c := range []struct {
		pick int
		kept string
	}{
		{-1, ""}, {-2, ""}, {-3, ""}, {-4, ""}, {math.MinInt, ""}, {math.MinInt + 1, ""},
		{3 * 1000000007, ""}, {3*1000000007 + 1, "x"}, {3*1000000007 + 2, "xy"},
		{math.MaxInt, "x"}, {math.MaxInt - 1, ""}, {math.MaxInt - 2, "xy"},
	} {
		d := load(t, file("a", "s", "xy"))
		d.Crash([]int{c.pick})
		holds(t, "P6.4", d, file("a", "s"+c.kept, ""))
	}
}

func TestCrashCountsOnlyTornFiles(t *testing.T) {
	files := []api.File{
		file("a", "", ""), file("b", "", "bbb"), file("c", "ccc", ""), file("d", "d", "ddd"),
		file("e", "ee", ""), file("f", "f", "f"), file("g", "", "ggg"), file("h", "h", ""),
	}
	for _, c := range []struct {
		picks      []int
		b, d, f, g string
	}{
		{nil, "", "d", "f", ""},
		{[]int{}, "", "d", "f", ""},
		{[]int{1}, "b", "d", "f", ""},
		{[]int{1, 2}, "b", "ddd", "f", ""},
		{[]int{1, 2, 1}, "b", "ddd", "ff", ""},
		{[]int{1, 2, 1, 3}, "b", "ddd", "ff", "ggg"},
		{[]int{1, 2, 1, 3, 3, 3, 3, 3}, "b", "ddd", "ff", "ggg"},
		{[]int{-1, 3, -1, 2}, "", "dddd", "f", "gg"},
		{[]int{4, 4, 2, 7}, "", "d", "f", "ggg"},
	} {
		d := load(t, files...)
		d.Crash(c.picks)
		holds(t, "P6.4", d, file("a", "", ""), file("b", c.b, ""), file("c", "ccc", ""), file("d", c.d, ""),
			file("e", "ee", ""), file("f", c.f, ""), file("g", c.g, ""), file("h", "h", ""))
	}
}

func TestCrashGoesByNames(t *testing.T) {
	names := goodNames()
	d := disk.New()
	var picks []int
	var want []api.File
	for i, n := range names {
		// Made from the last name to the first, and torn by their order.
		last := names[len(names)-1-i]
		expect(t, "P6.2", api.OK, d.Create(last), d.Append(last, make([]byte, len(names))))
		picks = append(picks, i)
		want = append(want, api.File{Name: n, Data: make([]byte, i), Safe: i})
	}
	d.Crash(picks)
	holds(t, "P6.4", d, want...)
}

func TestCrashDisarms(t *testing.T) {
	d := load(t, file("a", "", "a"))
	d.Arm(1)
	d.Crash([]int{1})
	for range 20 {
		expect(t, "P6.4", api.OK, d.Append("a", nil))
	}
	d.Arm(2)
	expect(t, "P6.3", api.OK, d.Sync("a"))
	d.Crash(nil)
	expect(t, "P6.4", api.OK, d.Append("a", nil), d.Append("a", nil))
	d.Arm(1)
	expect(t, "P6.3", api.ErrDown, d.Append("a", []byte("b")))
	d.Crash([]int{1})
	stands(t, "P6.4: Writes goes on counting", d, 23, false)
	expect(t, "P6.4", api.OK, d.Append("a", []byte("c")), d.Append("a", nil))
	stands(t, "P6.4", d, 25, false)
	holds(t, "P6.4", d, file("a", "ab", "c"))
}

func TestCrashOfNothing(t *testing.T) {
	d := disk.New()
	d.Crash(nil)
	d.Crash([]int{1, 2})
	holds(t, "P6.4", d)
	stands(t, "P6.4", d, 0, false)
}

func TestFailingAppendIsTorn(t *testing.T) {
	for pick := range 6 {
		d := load(t, file("a", "s", "12"))
		d.Arm(1)
		expect(t, "P6.3", api.ErrDown, d.Append("a", []byte("345")))
		d.Crash([]int{pick})
		holds(t, "P6.3", d, file("a", "s"+"12345"[:pick], ""))
	}
}

// P6.7

func TestSecondCrashChangesNothing(t *testing.T) {
	d := load(t, file("a", "s", "123"), file("b", "", "45"))
	d.Crash([]int{2, 1})
	for _, picks := range [][]int{nil, {0, 0}, {1, 1}, {7}} {
		d.Crash(picks)
		holds(t, "P6.7", d, file("a", "s12", ""), file("b", "4", ""))
	}
}
