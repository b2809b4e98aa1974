package disk_test

import (
	"bytes"
	"slices"
	"strings"
	"testing"

	"headrace/api"
	"headrace/disk"
)

// expect holds errors to those that are wanted, call by call.
func expect(t *testing.T, what string, want api.Errno, got ...api.Errno) {
	t.Helper()
	for i, e := range got {
		if e != want {
			t.Fatalf("%s: call %d: error %d, not %d", what, i, e, want)
		}
	}
}

// holds holds the disk to these files, by all the calls that tell of them.
func holds(t *testing.T, what string, d *disk.Disk, want ...api.File) {
	t.Helper()
	files, names := d.Files(), d.List()
	if len(files) != len(want) || len(names) != len(want) {
		t.Fatalf("%s: %d files, %d names, not %d", what, len(files), len(names), len(want))
	}
	size := 0
	for i, w := range want {
		b, e := d.Read(w.Name)
		if f := files[i]; f.Name != w.Name || names[i] != w.Name || f.Safe != w.Safe || !bytes.Equal(f.Data, w.Data) {
			t.Fatalf("%s: file %d is %q (%q): %.40q, %d safe, not %q: %.40q, %d safe", what, i, f.Name, names[i], f.Data, f.Safe, w.Name, w.Data, w.Safe)
		}
		if e != api.OK || !bytes.Equal(b, w.Data) {
			t.Fatalf("%s: Read(%q) is %.40q, error %d, not %.40q", what, w.Name, b, e, w.Data)
		}
		size += len(w.Data)
	}
	if d.Size() != size {
		t.Fatalf("%s: Size is %d, not %d", what, d.Size(), size)
	}
}

// stands holds the disk to a count of writes, and to being up or down.
func stands(t *testing.T, what string, d *disk.Disk, writes int, down bool) {
	t.Helper()
	if d.Writes() != writes || d.Down() != down {
		t.Fatalf("%s: %d writes, down %t, not %d, %t", what, d.Writes(), d.Down(), writes, down)
	}
}

// file makes a file of texts: what is safe, and what is not.
func file(name, safe, loose string) api.File {
	return api.File{Name: name, Data: []byte(safe + loose), Safe: len(safe)}
}

// load makes a disk of files that are right.
func load(t *testing.T, files ...api.File) *disk.Disk {
	t.Helper()
	d, e := disk.Load(files)
	if e != api.OK {
		t.Fatalf("P6.1: Load of %d files: error %d", len(files), e)
	}
	return d
}

// name makes one of many names of two bytes.
func name(i int) string { return string([]byte{byte('a' + i/26), byte('a' + i%26)}) }

// empty makes n empty files.
func empty(n int) []api.File {
	var l []api.File
	for i := range n {
		l = append(l, api.File{Name: name(i)})
	}
	return l
}

// badNames lists names that are none.
func badNames() []string {
	return []string{"", strings.Repeat("n", api.MaxFile+1), strings.Repeat("\x00", api.MaxFile+1), strings.Repeat("é", 11), strings.Repeat("x", 1000)}
}

// goodNames lists names of all lengths and of odd bytes, in ascending order.
func goodNames() []string {
	return []string{
		"\x00", "\x00\x00", "\n", " ", ".", "../up", "/", "A", "a", "a\x00", "aa", "aaa", "b",
		strings.Repeat("n", api.MaxFile-1), strings.Repeat("n", api.MaxFile), "z", strings.Repeat("é", 10), "\xFF", strings.Repeat("\xFF", api.MaxFile),
	}
}

// P6.1

func TestNew(t *testing.T) {
	d := disk.New()
	holds(t, "P6.1", d)
	stands(t, "P6.1", d, 0, false)
	for range 100 {
		expect(t, "P6.1: not armed", api.OK, d.Create("a"), d.Remove("a"))
	}
	holds(t, "P6.1: two disks", disk.New())
}

func TestLoadSorts(t *testing.T) {
	a, b, c := file("a", "sa", "fe"), file("b", "", "loose"), file("c", "safe", "")
	for _, l := range [][]api.File{{a, b, c}, {a, c, b}, {b, a, c}, {b, c, a}, {c, a, b}, {c, b, a}} {
		d := load(t, l...)
		holds(t, "P6.1", d, a, b, c)
		stands(t, "P6.1", d, 0, false)
		for range 100 {
			expect(t, "P6.1: not armed", api.OK, d.Create("d"), d.Remove("d"))
		}
		d.Crash([]int{1, 2})
		holds(t, "P6.1: what is safe is kept in mind", d, file("a", "saf", ""), file("b", "lo", ""), c)
	}
}

func TestLoadOfNothing(t *testing.T) {
	holds(t, "P6.1", load(t))
	holds(t, "P6.1", load(t, []api.File{}...))
}

func TestLoadOfAllNames(t *testing.T) {
	names := goodNames()
	var l []api.File
	for i := range names {
		l = append(l, file(names[len(names)-1-i], "x", "y"))
	}
	d := load(t, l...)
	slices.Reverse(l)
	holds(t, "P6.1", d, l...)
	for _, n := range badNames() {
		refused(t, api.ErrName, api.File{Name: n})
	}
}

func TestLoadAtItsLimits(t *testing.T) {
	full := api.File{Name: "full", Data: make([]byte, api.MaxDisk)}
	holds(t, "P6.1", load(t, full), full)
	holds(t, "P6.1", load(t, full, api.File{Name: "none"}), full, api.File{Name: "none"})
	holds(t, "P6.1", load(t, empty(api.MaxFiles)...), empty(api.MaxFiles)...)
	for safe := range 4 {
		f := api.File{Name: "f", Data: []byte("abc"), Safe: safe}
		holds(t, "P6.1", load(t, f), f)
	}
}

// refused holds Load to an error and to no disk.
func refused(t *testing.T, want api.Errno, files ...api.File) {
	t.Helper()
	if d, e := disk.Load(files); e != want || d != nil {
		t.Fatalf("P6.1: Load of %d files: error %d, disk %t, not error %d alone", len(files), e, d != nil, want)
	}
}

func TestLoadRefuses(t *testing.T) {
	a := file("a", "", "a")
	for _, safe := range []int{-1, -1 << 62, 2, 3, 1 << 62} {
		refused(t, api.ErrRange, api.File{Name: "b", Data: []byte("b"), Safe: safe})
		refused(t, api.ErrRange, a, api.File{Name: "b", Data: []byte("b"), Safe: safe}, a)
	}
	refused(t, api.ErrRange, api.File{Name: "b", Safe: 1})
	refused(t, api.ErrTwice, a, a)
	refused(t, api.ErrTwice, a, file("b", "", ""), file("a", "else", ""))
	refused(t, api.ErrMany, empty(api.MaxFiles+1)...)
	refused(t, api.ErrMany, empty(api.MaxFiles+100)...)
	over := api.File{Name: "over", Data: make([]byte, api.MaxDisk+1)}
	refused(t, api.ErrFull, over)
	full := api.File{Name: "full", Data: over.Data[1:]}
	refused(t, api.ErrFull, full, a)
	refused(t, api.ErrFull, a, full)
	half := api.File{Name: "half", Data: over.Data[:api.MaxDisk/2], Safe: 7}
	refused(t, api.ErrFull, half, api.File{Name: "more", Data: over.Data[:api.MaxDisk/2+1]})
	// Many files of the same bytes.
	l := empty(api.MaxFiles)
	for i := range l {
		l[i].Data = over.Data
	}
	refused(t, api.ErrFull, l...)
}

// What is wrong with an earlier file is told before all that is wrong with later ones, and with all of them together.
func TestLoadTellsTheFirstError(t *testing.T) {
	a := file("a", "", "a")
	wrong := api.File{Name: "wrong", Safe: 1}
	nameless := api.File{Safe: -1}
	again := api.File{Name: "a", Safe: 1}
	refused(t, api.ErrName, nameless)
	refused(t, api.ErrTwice, a, again)
	refused(t, api.ErrRange, wrong, nameless, a, again)
	refused(t, api.ErrName, a, nameless, again, wrong)
	refused(t, api.ErrName, nameless, nameless)
	refused(t, api.ErrTwice, a, again, nameless, wrong)
	refused(t, api.ErrRange, wrong, wrong)

	over := api.File{Name: "over", Data: make([]byte, api.MaxDisk+1)}
	many := append([]api.File{over}, empty(api.MaxFiles)...)
	refused(t, api.ErrMany, many...)
	refused(t, api.ErrName, append(many, nameless)...)
	refused(t, api.ErrTwice, append(many, over)...)
	refused(t, api.ErrRange, append(many, wrong)...)
	refused(t, api.ErrRange, over, wrong)
	refused(t, api.ErrTwice, over, over)
	over.Safe = -1
	refused(t, api.ErrRange, over)
}

// P6.5

func TestReadingWhileDown(t *testing.T) {
	d := load(t, file("b", "b1", "b2"), file("a", "", ""))
	expect(t, "P6.2", api.OK, d.Append("a", []byte("a1")))
	d.Arm(1)
	expect(t, "P6.3", api.ErrDown, d.Append("a", []byte("a2")))
	stands(t, "P6.5", d, 1, true)
	holds(t, "P6.5", d, file("a", "", "a1a2"), file("b", "b1", "b2"))
	if b, e := d.Read("c"); e != api.ErrNone || len(b) > 0 {
		t.Errorf("P6.5: Read of a file that is not there: %q, %d", b, e)
	}
	c := d.Copy()
	stands(t, "P6.5", c, 1, true)
	holds(t, "P6.5", c, file("a", "", "a1a2"), file("b", "b1", "b2"))
	expect(t, "P6.5: a copy is down too", api.ErrDown, c.Sync("a"))
	c.Crash([]int{3})
	holds(t, "P6.5", c, file("a", "a1a", ""), file("b", "b1", ""))
	stands(t, "P6.5", d, 1, true)
	holds(t, "P6.5", d, file("a", "", "a1a2"), file("b", "b1", "b2"))
}

func TestReadOfWhatIsNotThere(t *testing.T) {
	d := load(t, file("a", "x", "y"))
	for _, n := range append(badNames(), "b", "A", "a\x00", "aa") {
		if b, e := d.Read(n); e != api.ErrNone || len(b) > 0 {
			t.Errorf("P6.5: Read(%q): %q, %d", n, b, e)
		}
	}
	stands(t, "P6.5: reads are no writes", d, 0, false)
}

func TestListIsSorted(t *testing.T) {
	names := goodNames()
	d := disk.New()
	for i := range names {
		// Seven is prime to the number of names: all of them come, out of order.
		expect(t, "P6.2", api.OK, d.Create(names[i*7%len(names)]))
	}
	if got := d.List(); !slices.Equal(got, names) {
		t.Errorf("P6.5: List is %q, not %q", got, names)
	}
	var l []api.File
	for _, n := range names {
		l = append(l, api.File{Name: n})
	}
	holds(t, "P6.5", d, l...)
}

func TestCopyIsIndependent(t *testing.T) {
	d := load(t, file("a", "1", "2"), file("b", "3", ""))
	expect(t, "P6.2", api.OK, d.Sync("b"))
	d.Arm(3)
	c := d.Copy()
	stands(t, "P6.5", c, 1, false)
	expect(t, "P6.5", api.OK, d.Append("a", []byte("x")), d.Cut("b", 0))
	holds(t, "P6.5", c, file("a", "1", "2"), file("b", "3", ""))
	stands(t, "P6.5", c, 1, false)
	expect(t, "P6.5", api.OK, c.Rename("a", "c"), c.Append("b", []byte("y")))
	holds(t, "P6.5", d, file("a", "1", "2x"), file("b", "", ""))
	// Each is armed for its own third write.
	expect(t, "P6.5", api.ErrDown, c.Create("e"))
	stands(t, "P6.5", d, 3, false)
	stands(t, "P6.5", c, 3, true)
	expect(t, "P6.5", api.ErrDown, d.Remove("a"))
	c.Crash(nil)
	stands(t, "P6.5", d, 3, true)
	holds(t, "P6.5", d, file("a", "1", "2x"), file("b", "", ""))
	holds(t, "P6.5", c, file("b", "3", ""), file("c", "1", ""))
}

// P6.6

func TestArgumentsAreNotKept(t *testing.T) {
	room := []byte("bytes, and what lies behind them")
	before := bytes.Clone(room)
	l := []api.File{{Name: "b", Data: room[:5], Safe: 3}, {Name: "a", Data: room[7:10], Safe: 1}}
	d := load(t, l...)
	expect(t, "P6.2", api.OK, d.Create("c"), d.Append("c", room[:5]), d.Append("b", room[5:6]), d.Append("a", nil))
	picks := []int{9, -1, 2, 1, 5}
	d.Copy().Crash(picks[:3])
	if !bytes.Equal(room, before) || l[0].Name != "b" || l[1].Name != "a" || l[0].Safe != 3 || !slices.Equal(picks, []int{9, -1, 2, 1, 5}) {
		t.Error("P6.6: an argument was changed")
	}
	clear(room)
	clear(l)
	holds(t, "P6.6", d, file("a", "a", "nd"), file("b", "byt", "es,"), file("c", "", "bytes"))
}

func TestPicksBehindTheirLengthAreNotRead(t *testing.T) {
	picks := []int{1, 1, 1}
	d := load(t, file("a", "", "xy"), file("b", "", "xy"))
	d.Crash(picks[:1])
	holds(t, "P0.4", d, file("a", "x", ""), file("b", "", ""))
}

func TestResultsAreNewMemory(t *testing.T) {
	d := load(t, file("a", "one", ""), file("b", "tw", "o"))
	// Room is left behind what is appended bit by bit, and behind what was cut.
	expect(t, "P6.2", api.OK, d.Append("a", []byte("!")), d.Append("b", []byte("????")), d.Cut("b", 4))
	c := d.Copy()
	want := []api.File{file("a", "one", "!"), file("b", "tw", "o?")}
	spoil := func(b []byte) {
		clear(append(b, "more than was there before"...))
		clear(b[:cap(b)])
	}
	for _, x := range []*disk.Disk{d, c} {
		kept, other := x.Files(), x.Files()
		one, _ := x.Read("b")
		two, _ := x.Read("b")
		names := x.List()
		for i := range other {
			spoil(other[i].Data)
		}
		clear(other[:cap(other)])
		spoil(one)
		clear(names[:cap(names)])
		if string(two) != "two?" || string(kept[0].Data) != "one!" || string(kept[1].Data) != "two?" {
			t.Error("P6.6: two results share memory")
		}
		holds(t, "P6.6", d, want...)
		holds(t, "P6.6", c, want...)
	}
	expect(t, "P6.2", api.OK, d.Append("a", []byte("x")), d.Append("b", []byte("y")))
	expect(t, "P6.2", api.OK, c.Append("a", []byte("v")), c.Append("b", []byte("w")))
	holds(t, "P6.6", d, file("a", "one", "!x"), file("b", "tw", "o?y"))
	holds(t, "P6.6", c, file("a", "one", "!v"), file("b", "tw", "o?w"))
}
