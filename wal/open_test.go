package wal_test

import (
	"math"
	"strings"
	"testing"

	"headrace/api"
	"headrace/disk"
	"headrace/wal"
)

// noLog holds Open to an error, to no log, and to a disk that is as it was.
func noLog(t *testing.T, what string, d *disk.Disk, dir string, segment int, want api.Errno) {
	t.Helper()
	files, writes := d.Files(), d.Writes()
	if l, e := wal.Open(d, dir, segment); e != want || l != nil {
		t.Fatalf("%s: Open(%.20q, %d): error %d, log %t, not error %d alone", what, dir, segment, e, l != nil, want)
	}
	lies(t, what, d, files...)
	if d.Writes() != writes {
		t.Fatalf("%s: Open(%.20q, %d) wrote", what, dir, segment)
	}
}

// P7.1

func TestOpenOfANewDisk(t *testing.T) {
	for _, dir := range []string{"x", "log", "abcdefghijk", ".", "\x00", "éé"} {
		for _, segment := range []int{least, least + 1, api.MaxRecord - 1, api.MaxRecord} {
			d := disk.New()
			l, e := wal.Open(d, dir, segment)
			if e != api.OK || l == nil {
				t.Fatalf("P7.1: Open(%q, %d): error %d", dir, segment, e)
			}
			holds(t, "P7.1", l, 1, 0)
			lies(t, "P7.1", d, file(dir+".00000001", "", ""))
			if d.Writes() != 1 {
				t.Errorf("P7.1: %d writes, not Create alone", d.Writes())
			}
		}
	}
}

func TestOpenRefuses(t *testing.T) {
	up, down := disk.New(), load(t, file("log.00000001", "", framed(t, "a")))
	down.Arm(1)
	expect(t, "P6.3", api.ErrDown, down.Create("a"))
	sizes := []int{math.MinInt, -1, 0, least - 1, api.MaxRecord + 1, math.MaxInt}
	for _, dir := range []string{"", "abcdefghijkl", "éééééé", strings.Repeat("x", 1000)} {
		for _, segment := range append(sizes, least) {
			noLog(t, "P7.1", up, dir, segment, api.ErrName)
			noLog(t, "P7.1: the first error", down, dir, segment, api.ErrName)
		}
	}
	for _, segment := range sizes {
		noLog(t, "P7.1", up, "log", segment, api.ErrRange)
		noLog(t, "P7.1: the first error", down, "log", segment, api.ErrRange)
	}
	noLog(t, "P7.1", down, "log", least, api.ErrDown)
	corrupt := load(t, file("log.00000001", "", ""), file("log.00000003", "", "torn"))
	corrupt.Arm(1)
	expect(t, "P6.3", api.ErrDown, corrupt.Sync("log.00000001"))
	noLog(t, "P7.1: before anything is read", corrupt, "log", least, api.ErrDown)
	noLog(t, "P7.1", down, "other", least, api.ErrDown)
}

func TestOpenWithTooManyFiles(t *testing.T) {
	d := disk.New()
	fill(t, d, api.MaxFiles)
	noLog(t, "P7.1: the error of Create", d, "log", least, api.ErrMany)
	expect(t, "P6.2", api.OK, d.Rename(d.List()[0], "log.00000001"))
	holds(t, "P7.1: nothing to create", open(t, d, least), 1, 0)
	// A log may have all the files.
	d = disk.New()
	l := open(t, d, least)
	var records []string
	for i := range api.MaxFiles {
		records = append(records, sized(least, string(rune('0'+i))))
	}
	add(t, l, 1, records...)
	refuses(t, l, nil, api.ErrMany)
	holds(t, "P7.1", open(t, d, least), 1, api.MaxFiles, records...)
}

func TestOpenIgnoresOtherNames(t *testing.T) {
	names := []string{
		"log", "log.", "log.0", "log.1", "log.0000001", "log.000000001", "log.000000010", "log.00000000", "log.-0000001",
		"log.+0000001", "log. 0000001", "log.0000001 ", "log.0000000a", "log.0x000001", "log.0_000001", "log.1e000000",
		"log,00000001", "log00000001", "logs.00000001", "og.00000001", ".00000001", "Log.00000001", "xlog.00000001",
		"log.00000001.", "log..00000001", "log.٠٠٠١", "\x00",
	}
	var files []api.File
	for _, n := range names {
		files = append(files, file(n, framed(t, "else"), "torn"))
	}
	d := load(t, files...)
	before := d.Files()
	l := open(t, d, least)
	holds(t, "P7.1", l, 1, 0)
	expect(t, "P6.2", api.OK, d.Remove("log.00000001"))
	lies(t, "P7.1", d, before...)
	expect(t, "P6.2", api.OK, d.Create("log.00000007"), d.Append("log.00000007", []byte(framed(t, "g"))))
	l = open(t, d, least)
	holds(t, "P7.1", l, 7, 7, "g")
	expect(t, "P6.2", api.OK, d.Remove("log.00000007"))
	lies(t, "P7.1", d, before...)
}

func TestOpenOfSegments(t *testing.T) {
	for _, c := range []struct {
		files   []api.File
		first   int
		records []string
	}{
		{[]api.File{file("log.00000001", "", "")}, 1, nil},
		{[]api.File{file("log.00000005", "", "")}, 5, nil},
		{[]api.File{file("log.99999999", "", "")}, most, nil},
		{[]api.File{file("log.00000005", framed(t, "e"), framed(t, "", "g"))}, 5, []string{"e", "", "g"}},
		{[]api.File{file("log.00000001", framed(t, "a", "b"), ""), file("log.00000003", "", framed(t, "c"))}, 1, []string{"a", "b", "c"}},
		// The bytes of a segment that is not the last one need not be safe, nor as many as the segments have now.
		{[]api.File{file("log.00000009", "", framed(t, "i")), file("log.00000010", "", "")}, 9, []string{"i"}},
		{[]api.File{file("log.99999998", framed(t, "y"), ""), file("log.99999999", framed(t, "z"), "")}, most - 1, []string{"y", "z"}},
		// No segment is the number of a further one, but the last one may have it all the same.
		{[]api.File{file("log.99999999", framed(t, "x", "y", "z"), "")}, most, []string{"x", "y", "z"}},
	} {
		d := load(t, c.files...)
		l := open(t, d, 100)
		holds(t, "P7.1", l, c.first, c.first+len(c.records)-1, c.records...)
		if d.Writes() != 1 {
			t.Errorf("P7.1: %d writes, not Sync alone", d.Writes())
		}
		last := len(c.files) - 1
		c.files[last].Safe = len(c.files[last].Data)
		lies(t, "P7.1: the last segment alone is Synced", d, c.files...)
	}
}

func TestOpenTakesAnySegmentSize(t *testing.T) {
	d := disk.New()
	l := open(t, d, api.MaxRecord)
	add(t, l, 1, sized(50, "a"), sized(50, "b"))
	l = open(t, d, 101)
	add(t, l, 3, "c")
	lies(t, "P7.2", d, file("log.00000001", framed(t, sized(50, "a"), sized(50, "b")), framed(t, "c")))
	l = open(t, d, least)
	holds(t, "P7.1", l, 1, 3, sized(50, "a"), sized(50, "b"), "c")
	add(t, l, 4, "d")
	lies(t, "P7.2", d, file("log.00000001", framed(t, sized(50, "a"), sized(50, "b"), "c"), ""), file("log.00000004", "", framed(t, "d")))
}

func TestOpenCutsWhatIsTorn(t *testing.T) {
	frames := framed(t, "c", "dd")
	next := framed(t, "next")
	broken := []byte(next)
	broken[9] ^= 1
	for _, torn := range []string{"x", next[:1], next[:8], next[:len(next)-1], string(broken), string(broken) + next, strings.Repeat("\x00", 100), strings.Repeat("\xFF", 20)} {
		for _, safe := range []int{0, 5, len(frames), len(frames) + len(torn)} {
			one := file("log.00000001", "", framed(t, "a", "b"))
			two := api.File{Name: "log.00000003", Data: []byte(frames + torn), Safe: safe}
			d := load(t, one, two)
			l := open(t, d, 100)
			if d.Writes() != 2 {
				t.Errorf("P7.1: %d writes, not Cut and Sync", d.Writes())
			}
			lies(t, "P7.1", d, one, file("log.00000003", frames, ""))
			holds(t, "P7.1", l, 1, 4, "a", "b", "c", "dd")
			add(t, l, 5, "e")
			lies(t, "P7.2", d, one, file("log.00000003", frames, framed(t, "e")))
		}
	}
	d := load(t, file("log.00000004", next[:5], next[5:10]))
	holds(t, "P7.1: nothing is left", open(t, d, least), 4, 3)
	lies(t, "P7.1", d, file("log.00000004", "", ""))
}

func TestOpenOfCorruptSegments(t *testing.T) {
	a, b := framed(t, "a"), framed(t, "b")
	broken := []byte(b)
	broken[8] ^= 1
	for i, files := range [][]api.File{
		// Torn, spoilt, or with more behind its frames, ahead of the last one.
		{file("log.00000001", a+b[:12], ""), file("log.00000003", "", "")},
		{file("log.00000001", a+b[:12], ""), file("log.00000002", "", "")},
		{file("log.00000001", a+string(broken), ""), file("log.00000003", "", "")},
		{file("log.00000001", a+"x", ""), file("log.00000002", "", "")},
		{file("log.00000001", a, "x"), file("log.00000002", "", "")},
		// Numbers that do not follow.
		{file("log.00000001", a+b, ""), file("log.00000002", "", "")},
		{file("log.00000001", a+b, ""), file("log.00000004", "", "")},
		{file("log.00000001", "", ""), file("log.00000002", "", "")},
		{file("log.00000001", a, ""), file("log.99999999", "", "")},
		{file("log.99999998", a+b, ""), file("log.99999999", "", "")},
		// In the midst.
		{file("log.00000001", a, ""), file("log.00000002", a+"x", ""), file("log.00000003", "", "")},
		{file("log.00000001", a, ""), file("log.00000002", a, ""), file("log.00000004", "", "")},
		{file("log.00000002", a, ""), file("log.00000003", "", ""), file("log.00000004", "", "")},
		// With a last one that would be Cut.
		{file("log.00000001", a+"x", ""), file("log.00000002", b, "torn")},
		{file("log.00000001", a, ""), file("log.00000003", b, "torn")},
	} {
		noLog(t, "P7.1: case "+string(rune('A'+i)), load(t, files...), "log", least, api.ErrCorrupt)
		d := load(t, files...)
		d.Arm(1)
		noLog(t, "P7.1: before any write: case "+string(rune('A'+i)), d, "log", least, api.ErrCorrupt)
	}
}

func TestOpenOnADiskThatFails(t *testing.T) {
	d := disk.New()
	d.Arm(1)
	noLog(t, "P7.1: Create", d, "log", least, api.ErrDown)
	d.Crash(nil)
	holds(t, "P7.7", open(t, d, least), 1, 0)
	for n := range 2 {
		d := load(t, file("log.00000001", framed(t, "a"), ""), file("log.00000002", "", framed(t, "b")+"torn"))
		d.Arm(n + 1)
		if l, e := wal.Open(d, "log", least); l != nil || e != api.ErrDown {
			t.Fatalf("P7.1: armed %d: error %d, log %t", n+1, e, l != nil)
		}
		if n == 0 {
			lies(t, "P7.1: Cut", d, file("log.00000001", framed(t, "a"), ""), file("log.00000002", "", framed(t, "b")+"torn"))
		} else {
			lies(t, "P7.1: Sync", d, file("log.00000001", framed(t, "a"), ""), file("log.00000002", "", framed(t, "b")))
		}
		noLog(t, "P7.1", d, "log", least, api.ErrDown)
		d.Crash([]int{13})
		holds(t, "P7.7", open(t, d, least), 1, 2, "a", "b")
	}
}

// P7.8

func TestOpenAfterOpen(t *testing.T) {
	d := disk.New()
	l, records := steps(t, d)
	add(t, l, 7, "g", "h")
	d.Crash([]int{20})
	for range 4 {
		l = open(t, d, least)
		holds(t, "P7.8", l, 1, 7, append(records[:6:6], "g")...)
	}
	files := d.Files()
	open(t, d, api.MaxRecord)
	lies(t, "P7.8", d, files...)
	expect(t, "P7.4", api.OK, l.Trim(4))
	for range 2 {
		holds(t, "P7.8", open(t, d, least), 4, 7, append(records[3:6:6], "g")...)
	}
}
