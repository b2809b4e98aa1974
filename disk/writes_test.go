package disk_test

import (
	"bytes"
	"math"
	"testing"

	"headrace/api"
	"headrace/disk"
)

// P6.2

func TestCreate(t *testing.T) {
	d := disk.New()
	for i, n := range goodNames() {
		expect(t, "P6.2", api.OK, d.Create(n))
		expect(t, "P6.2", api.ErrTwice, d.Create(n))
		stands(t, "P6.2", d, i+1, false)
	}
	for _, n := range badNames() {
		expect(t, "P6.2", api.ErrName, d.Create(n))
	}
	d = load(t, file("a", "safe", "loose"))
	expect(t, "P6.2", api.ErrTwice, d.Create("a"))
	holds(t, "P6.2: ErrTwice changes nothing", d, file("a", "safe", "loose"))
	expect(t, "P6.2", api.OK, d.Create("b"))
	holds(t, "P6.2", d, file("a", "safe", "loose"), file("b", "", ""))
}

func TestCreateOfTooMany(t *testing.T) {
	d := disk.New()
	l := empty(api.MaxFiles)
	for _, f := range l {
		expect(t, "P6.2", api.OK, d.Create(f.Name))
	}
	expect(t, "P6.2", api.ErrMany, d.Create("zz"), d.Create("z"))
	expect(t, "P6.2: the first error", api.ErrName, d.Create(""))
	expect(t, "P6.2: the first error", api.ErrTwice, d.Create(l[0].Name), d.Create(l[63].Name))
	stands(t, "P6.2", d, api.MaxFiles, false)
	holds(t, "P6.2", d, l...)
	expect(t, "P6.2: a rename needs no room", api.OK, d.Rename(l[63].Name, "zz"))
	expect(t, "P6.2", api.ErrMany, d.Create(l[63].Name))
	expect(t, "P6.2", api.OK, d.Remove("zz"), d.Create(l[63].Name))
	expect(t, "P6.2", api.OK, d.Rename(l[5].Name, l[6].Name), d.Create(l[5].Name))
	expect(t, "P6.2", api.ErrMany, d.Create("zz"))
	holds(t, "P6.2", d, l...)
}

func TestAppend(t *testing.T) {
	d := load(t, file("a", "sa", "lo"), file("b", "", ""))
	expect(t, "P6.2", api.OK, d.Append("a", []byte("xy")), d.Append("b", []byte{0, 255}), d.Append("a", nil), d.Append("b", []byte{}))
	holds(t, "P6.2", d, file("a", "sa", "loxy"), file("b", "", "\x00\xFF"))
	stands(t, "P6.2: no bytes are a write too", d, 4, false)
	for _, n := range append(badNames(), "c", "A") {
		expect(t, "P6.2", api.ErrNone, d.Append(n, []byte("x")), d.Append(n, nil), d.Append(n, make([]byte, api.MaxDisk+1)))
	}
	holds(t, "P6.2", d, file("a", "sa", "loxy"), file("b", "", "\x00\xFF"))
	stands(t, "P6.2", d, 4, false)
}

func TestAppendAtTheLimit(t *testing.T) {
	d := load(t, file("a", "12", "3"), file("b", "", ""))
	all := make([]byte, api.MaxDisk+1)
	expect(t, "P6.2", api.ErrFull, d.Append("b", all), d.Append("b", all[3:]), d.Append("a", all[3:]))
	holds(t, "P6.2", d, file("a", "12", "3"), file("b", "", ""))
	stands(t, "P6.2", d, 0, false)
	expect(t, "P6.2", api.OK, d.Append("b", all[4:]))
	expect(t, "P6.2", api.ErrFull, d.Append("a", []byte{0}), d.Append("b", []byte{0}))
	expect(t, "P6.2", api.OK, d.Append("a", nil), d.Append("b", nil), d.Create("c"), d.Sync("b"), d.Append("c", nil))
	if d.Size() != api.MaxDisk {
		t.Errorf("P6.2: %d bytes", d.Size())
	}
	// Room that is given back can be had again: by Cut, Remove, Rename and Crash.
	expect(t, "P6.2", api.OK, d.Cut("a", 2), d.Append("c", []byte("c")))
	expect(t, "P6.2", api.ErrFull, d.Append("c", []byte("c")))
	expect(t, "P6.2", api.OK, d.Remove("a"), d.Append("c", []byte("cc")))
	expect(t, "P6.2", api.ErrFull, d.Append("c", []byte("c")))
	expect(t, "P6.2", api.OK, d.Create("a"), d.Rename("a", "c"), d.Append("c", []byte("ddd")))
	expect(t, "P6.2", api.ErrFull, d.Append("c", []byte("c")))
	d.Crash([]int{1})
	expect(t, "P6.2", api.ErrFull, d.Append("c", []byte("eee")))
	expect(t, "P6.2", api.OK, d.Append("c", []byte("ee")))
	holds(t, "P6.2", d, api.File{Name: "b", Data: all[4:], Safe: api.MaxDisk - 3}, file("c", "d", "ee"))
}

func TestAppendBitByBit(t *testing.T) {
	d := load(t, file("a", "", ""), file("b", "", ""))
	var a, b []byte
	for i := range 3000 {
		piece := bytes.Repeat([]byte{byte(i)}, i%7)
		expect(t, "P6.2", api.OK, d.Append("a", piece), d.Append("b", []byte{byte(i), byte(i >> 8)}))
		a, b = append(a, piece...), append(b, byte(i), byte(i>>8))
	}
	holds(t, "P6.2", d, api.File{Name: "a", Data: a}, api.File{Name: "b", Data: b})
}

func TestSync(t *testing.T) {
	d := load(t, file("a", "sa", "fe"), file("b", "", "loose"), file("c", "", ""))
	expect(t, "P6.2", api.OK, d.Sync("a"))
	holds(t, "P6.2: only this file", d, file("a", "safe", ""), file("b", "", "loose"), file("c", "", ""))
	expect(t, "P6.2", api.OK, d.Sync("a"), d.Sync("c"), d.Sync("b"), d.Append("b", []byte("r")))
	holds(t, "P6.2", d, file("a", "safe", ""), file("b", "loose", "r"), file("c", "", ""))
	stands(t, "P6.2: a Sync of safe bytes is a write too", d, 5, false)
	for _, n := range append(badNames(), "d") {
		expect(t, "P6.2", api.ErrNone, d.Sync(n))
	}
	stands(t, "P6.2", d, 5, false)
}

func TestCut(t *testing.T) {
	for n := range 6 {
		d := load(t, file("a", "123", "45"), file("b", "6", "7"))
		expect(t, "P6.2", api.OK, d.Cut("a", n))
		holds(t, "P6.2", d, file("a", "123"[:min(n, 3)], "45"[:max(n-3, 0)]), file("b", "6", "7"))
		stands(t, "P6.2", d, 1, false)
		expect(t, "P6.2", api.OK, d.Append("a", []byte("xy")))
		holds(t, "P6.2: what is appended behind a cut is not safe", d, file("a", "123"[:min(n, 3)], "45"[:max(n-3, 0)]+"xy"), file("b", "6", "7"))
		d.Crash(nil)
		holds(t, "P6.2: a truncation survives", d, file("a", "123"[:min(n, 3)], ""), file("b", "6", ""))
	}
	d := load(t, file("a", "123", "45"), file("b", "", ""))
	expect(t, "P6.2", api.ErrRange, d.Cut("a", -1), d.Cut("a", 6), d.Cut("a", math.MinInt), d.Cut("a", math.MaxInt), d.Cut("b", 1), d.Cut("b", -1))
	for _, name := range append(badNames(), "c") {
		expect(t, "P6.2: the first error", api.ErrNone, d.Cut(name, 0), d.Cut(name, -1), d.Cut(name, 9))
	}
	holds(t, "P6.2", d, file("a", "123", "45"), file("b", "", ""))
	stands(t, "P6.2", d, 0, false)
	expect(t, "P6.2", api.OK, d.Cut("b", 0), d.Cut("a", 5))
	stands(t, "P6.2: a Cut of no bytes is a write too", d, 2, false)
}

func TestCutBytesAreGone(t *testing.T) {
	d := load(t, file("a", "12345", ""))
	expect(t, "P6.2", api.OK, d.Cut("a", 2))
	expect(t, "P6.2", api.ErrRange, d.Cut("a", 5), d.Cut("a", 3))
	expect(t, "P6.2", api.OK, d.Append("a", nil))
	d.Crash([]int{3})
	holds(t, "P6.2", d, file("a", "12", ""))
}

func TestRename(t *testing.T) {
	a, b, c := file("a", "sa", "lo"), file("b", "bb", ""), file("c", "", "c")
	d := load(t, a, b)
	expect(t, "P6.2", api.OK, d.Rename("a", "c"))
	holds(t, "P6.2", d, b, file("c", "sa", "lo"))
	expect(t, "P6.2", api.ErrNone, d.Rename("a", "c"), d.Sync("a"))
	expect(t, "P6.2", api.OK, d.Append("c", []byte("x")), d.Create("a"))
	holds(t, "P6.2", d, file("a", "", ""), b, file("c", "sa", "lox"))

	d = load(t, a, b, c)
	expect(t, "P6.2", api.OK, d.Rename("a", "b"))
	holds(t, "P6.2: the file that had the name is removed", d, file("b", "sa", "lo"), c)
	d.Crash([]int{1})
	holds(t, "P6.2: a name survives", d, file("b", "sal", ""), file("c", "", ""))

	for _, n := range goodNames() {
		d = load(t, file("from", "f", "g"))
		expect(t, "P6.2", api.OK, d.Rename("from", n))
		holds(t, "P6.2", d, file(n, "f", "g"))
	}
}

func TestRenameToItself(t *testing.T) {
	a, b := file("a", "sa", "lo"), file("b", "bb", "")
	d := load(t, a, b)
	expect(t, "P6.2", api.OK, d.Rename("a", "a"), d.Rename("b", "b"))
	holds(t, "P6.2", d, a, b)
	stands(t, "P6.2: it is a write", d, 2, false)
	d.Arm(2)
	expect(t, "P6.3", api.OK, d.Rename("a", "a"))
	expect(t, "P6.3", api.ErrDown, d.Rename("a", "a"))
	holds(t, "P6.3", d, a, b)
	stands(t, "P6.3", d, 3, true)
}

func TestRenameRefuses(t *testing.T) {
	a := file("a", "sa", "lo")
	d := load(t, a)
	for _, n := range badNames() {
		expect(t, "P6.2", api.ErrName, d.Rename("a", n))
		expect(t, "P6.2: the first error", api.ErrNone, d.Rename("b", n), d.Rename(n, n), d.Rename(n, "a"))
	}
	expect(t, "P6.2", api.ErrNone, d.Rename("b", "a"), d.Rename("b", "b"))
	holds(t, "P6.2", d, a)
	stands(t, "P6.2", d, 0, false)
}

func TestRemove(t *testing.T) {
	a, b := file("a", "sa", "lo"), file("b", "bb", "")
	d := load(t, a, b)
	expect(t, "P6.2", api.OK, d.Remove("a"))
	holds(t, "P6.2", d, b)
	for _, n := range append(badNames(), "a", "c") {
		expect(t, "P6.2", api.ErrNone, d.Remove(n))
	}
	stands(t, "P6.2", d, 1, false)
	expect(t, "P6.2", api.OK, d.Create("a"))
	holds(t, "P6.2: nothing of the old file is left", d, file("a", "", ""), b)
	expect(t, "P6.2", api.OK, d.Remove("a"), d.Remove("b"))
	d.Crash([]int{3, 3})
	holds(t, "P6.2: what is removed stays so", d)
}

// all lists the writes: ones that have no error of their own on the disk of three, and ones that have each of theirs.
func all(d *disk.Disk) (right, wrong []func() api.Errno) {
	right = []func() api.Errno{
		func() api.Errno { return d.Create("new") },
		func() api.Errno { return d.Append("a", []byte("xyz")) },
		func() api.Errno { return d.Append("a", nil) },
		func() api.Errno { return d.Sync("a") },
		func() api.Errno { return d.Sync("b") },
		func() api.Errno { return d.Cut("a", 1) },
		func() api.Errno { return d.Cut("a", 3) },
		func() api.Errno { return d.Cut("a", 4) },
		func() api.Errno { return d.Rename("a", "b") },
		func() api.Errno { return d.Rename("a", "new") },
		func() api.Errno { return d.Rename("a", "a") },
		func() api.Errno { return d.Remove("a") },
	}
	wrong = []func() api.Errno{
		func() api.Errno { return d.Create("") },
		func() api.Errno { return d.Create("a") },
		func() api.Errno { return d.Append("new", nil) },
		func() api.Errno { return d.Append("a", make([]byte, api.MaxDisk)) },
		func() api.Errno { return d.Sync("new") },
		func() api.Errno { return d.Cut("new", 0) },
		func() api.Errno { return d.Cut("a", 5) },
		func() api.Errno { return d.Cut("a", -1) },
		func() api.Errno { return d.Rename("new", "a") },
		func() api.Errno { return d.Rename("a", "") },
		func() api.Errno { return d.Remove("new") },
	}
	return right, wrong
}

// three returns the files for which the writes of all are made.
func three() []api.File {
	return []api.File{file("a", "sa", "lo"), file("b", "bb", ""), file("c", "", "cc")}
}

func TestWritesAreCounted(t *testing.T) {
	right, wrong := all(disk.New())
	for i := range right {
		d := load(t, three()...)
		w, _ := all(d)
		expect(t, "P6.3", api.OK, w[i]())
		stands(t, "P6.3", d, 1, false)
	}
	for i := range wrong {
		d := load(t, three()...)
		_, w := all(d)
		if e := w[i](); e == api.OK || e == api.ErrDown {
			t.Errorf("P6.2: wrong write %d: %d", i, e)
		}
		stands(t, "P6.3", d, 0, false)
		holds(t, "P6.7: an error changes nothing", d, three()...)
	}
}

// P6.3

func TestEveryWriteMayFail(t *testing.T) {
	right, _ := all(disk.New())
	for i := range right {
		d := load(t, three()...)
		w, wrong := all(d)
		d.Arm(1)
		for k, f := range wrong {
			if e := f(); e == api.OK || e == api.ErrDown {
				t.Errorf("P6.3: a write with an error of its own, %d, is the failing one: %d", k, e)
			}
		}
		expect(t, "P6.3", api.ErrDown, w[i]())
		stands(t, "P6.3", d, 0, true)
		want := three()
		if i == 1 {
			want[0] = file("a", "sa", "loxyz")
		}
		holds(t, "P6.3", d, want...)
		// Down, nothing is written, nor counted, nor is an error of its own told.
		for k := range w {
			expect(t, "P6.2", api.ErrDown, w[k]())
		}
		for k := range wrong {
			expect(t, "P6.2", api.ErrDown, wrong[k]())
		}
		stands(t, "P6.3", d, 0, true)
		holds(t, "P6.3", d, want...)
		d.Crash(nil)
		stands(t, "P6.4", d, 0, false)
		holds(t, "P6.4", d, file("a", "sa", ""), file("b", "bb", ""), file("c", "", ""))
	}
}

func TestArmCountsWritesWithoutErrors(t *testing.T) {
	for n := 1; n < 30; n++ {
		d := disk.New()
		d.Arm(n)
		for i := range n - 1 {
			expect(t, "P6.3", api.OK, d.Create(name(i)))
			expect(t, "P6.3", api.ErrTwice, d.Create(name(i)))
			expect(t, "P6.3", api.ErrNone, d.Append("zz", nil))
		}
		stands(t, "P6.3", d, n-1, false)
		expect(t, "P6.3", api.ErrDown, d.Create("last"), d.Create(""), d.Sync(name(0)))
		stands(t, "P6.3", d, n-1, true)
		holds(t, "P6.3", d, empty(n-1)...)
	}
}

func TestArmAgain(t *testing.T) {
	d := load(t, file("a", "", ""))
	write := func(n int) {
		t.Helper()
		for range n {
			expect(t, "P6.3", api.OK, d.Append("a", []byte("x")))
		}
	}
	d.Arm(2)
	write(1)
	d.Arm(4)
	write(3)
	d.Arm(1)
	for _, n := range []int{0, -1, math.MinInt} {
		d.Arm(1)
		d.Arm(n)
		write(10)
	}
	d.Arm(math.MaxInt)
	write(10)
	stands(t, "P6.3", d, 44, false)
	d.Arm(10)
	d.Arm(1)
	expect(t, "P6.3", api.ErrDown, d.Append("a", []byte("y")))
	stands(t, "P6.3", d, 44, true)
}

func TestArmWhileDown(t *testing.T) {
	for _, n := range []int{-1, 0, 1, 2, 100} {
		d := load(t, file("a", "", "a"))
		d.Arm(1)
		expect(t, "P6.3", api.ErrDown, d.Sync("a"))
		d.Arm(n)
		c := d.Copy()
		expect(t, "P6.3", api.ErrDown, d.Sync("a"), d.Append("a", []byte("b")))
		stands(t, "P6.3", d, 0, true)
		holds(t, "P6.3", d, file("a", "", "a"))
		for _, x := range []*disk.Disk{c, d} {
			x.Crash([]int{1})
			for range 101 {
				expect(t, "P6.3: Arm of a disk that is down has no effect", api.OK, x.Append("a", nil))
			}
		}
	}
}

func TestFailingAppendOfTooMuch(t *testing.T) {
	d := load(t, file("a", "x", ""))
	rest := make([]byte, api.MaxDisk)
	d.Arm(1)
	expect(t, "P6.3", api.ErrFull, d.Append("a", rest))
	stands(t, "P6.3", d, 0, false)
	expect(t, "P6.3", api.ErrDown, d.Append("a", rest[1:]))
	if d.Size() != api.MaxDisk {
		t.Errorf("P6.3: %d bytes", d.Size())
	}
	d.Crash([]int{api.MaxDisk - 1})
	expect(t, "P6.3", api.ErrFull, d.Append("a", rest[:1]))
}
