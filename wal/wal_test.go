package wal_test

import (
	"bytes"
	"fmt"
	"math"
	"slices"
	"strings"
	"testing"

	"headrace/api"
	"headrace/disk"
	"headrace/frame"
	"headrace/wal"
)

const (
	// extra is what chapter 5 says that a frame has beside its record.
	extra = 12
	least = 64
	// most is the greatest number of a record.
	most = 99999999
)

// open opens the log on a disk that is right.
func open(t *testing.T, d *disk.Disk, segment int) *wal.Log {
	t.Helper()
	l, e := wal.Open(d, "log", segment)
	if e != api.OK || l == nil {
		t.Fatalf("P7.1: Open: error %d", e)
	}
	return l
}

// add appends records that get the numbers from first on.
func add(t *testing.T, l *wal.Log, first int, records ...string) {
	t.Helper()
	for i, r := range records {
		if n, e := l.Append([]byte(r)); n != first+i || e != api.OK {
			t.Fatalf("P7.2: Append(%.40q) returns %d, error %d, not %d", r, n, e, first+i)
		}
	}
}

// refuses holds Append to an error and to no number.
func refuses(t *testing.T, l *wal.Log, p []byte, want api.Errno) {
	t.Helper()
	if n, e := l.Append(p); n != 0 || e != want {
		t.Fatalf("P7.2: Append of %d bytes returns %d, error %d, not error %d", len(p), n, e, want)
	}
}

// expect holds errors to the one that is wanted, call by call.
func expect(t *testing.T, what string, want api.Errno, got ...api.Errno) {
	t.Helper()
	for i, e := range got {
		if e != want {
			t.Fatalf("%s: call %d: error %d, not %d", what, i, e, want)
		}
	}
}

// stands holds the log to its numbers.
func stands(t *testing.T, what string, l *wal.Log, first, next, safe int) {
	t.Helper()
	if l.First() != first || l.Next() != next || l.Safe() != safe {
		t.Fatalf("%s: First %d, Next %d, Safe %d, not %d, %d, %d", what, l.First(), l.Next(), l.Safe(), first, next, safe)
	}
}

// holds holds the log to these records from first on, of which the first ones, up to safe, are safe, by
// all the calls that tell of them.
func holds(t *testing.T, what string, l *wal.Log, first, safe int, want ...string) {
	t.Helper()
	next := first + len(want)
	stands(t, what, l, first, next, safe)
	for i, w := range want {
		if b, e := l.Read(first + i); string(b) != w || e != api.OK {
			t.Fatalf("%s: Read(%d) returns %.40q, error %d, not %.40q", what, first+i, b, e, w)
		}
	}
	for _, n := range []int{math.MinInt, -1, 0, first - 1, next, next + 1, math.MaxInt} {
		if b, e := l.Read(n); len(b) != 0 || e != api.ErrNone {
			t.Fatalf("%s: Read(%d) returns %.40q, error %d, not ErrNone", what, n, b, e)
		}
		if n == next && next == safe+1 {
			continue
		}
		if b, e := l.From(n, 5); len(b) != 0 || e != api.ErrNone {
			t.Fatalf("%s: From(%d) returns %.40q, error %d, not ErrNone", what, n, b, e)
		}
	}
	for n := first; n <= safe+1; n++ {
		for _, k := range []int{0, 1, 2, safe + 1 - n, safe + 2 - n, math.MaxInt, -1, math.MinInt} {
			rest := want[n-first : safe+1-first]
			tells(t, what, l, n, k, rest[:min(len(rest), max(k, 0))])
		}
	}
}

// tells holds From to records.
func tells(t *testing.T, what string, l *wal.Log, n, k int, want []string) {
	t.Helper()
	got, e := l.From(n, k)
	if e != api.OK || !slices.EqualFunc(got, want, func(b []byte, s string) bool { return string(b) == s }) {
		t.Fatalf("%s: From(%d, %d) returns %.200q, error %d, not %.200q", what, n, k, got, e, want)
	}
}

// framed returns the frames of the records.
func framed(t *testing.T, records ...string) string {
	t.Helper()
	var b []byte
	for _, r := range records {
		f, e := frame.Frame([]byte(r))
		if e != api.OK {
			t.Fatalf("P5.2: error %d", e)
		}
		b = append(b, f...)
	}
	return string(b)
}

// file makes a file of texts: what is safe, and what is not.
func file(name, safe, loose string) api.File {
	return api.File{Name: name, Data: []byte(safe + loose), Safe: len(safe)}
}

// load makes a disk of files that are right.
func load(t *testing.T, files ...api.File) *disk.Disk {
	t.Helper()
	d, e := disk.Load(files)
	if e != api.OK {
		t.Fatalf("P6.1: Load: error %d", e)
	}
	return d
}

// told tells files with what is safe, and what is not.
func told(files []api.File) string {
	var s string
	for _, f := range files {
		s += fmt.Sprintf("%s: %.100q, %.100q; ", f.Name, f.Data[:f.Safe], f.Data[f.Safe:])
	}
	return s
}

// lies holds the disk to its files.
func lies(t *testing.T, what string, d *disk.Disk, want ...api.File) {
	t.Helper()
	same := func(a, b api.File) bool { return a.Name == b.Name && a.Safe == b.Safe && bytes.Equal(a.Data, b.Data) }
	if got := d.Files(); !slices.EqualFunc(got, want, same) {
		t.Fatalf("%s: the files are %s, not %s", what, told(got), told(want))
	}
}

// sized returns a record whose frame has n bytes.
func sized(n int, of string) string { return strings.Repeat(of, n-extra) }

// The examples of the chapter.

func TestExamples(t *testing.T) {
	d := disk.New()
	l := open(t, d, least)
	stands(t, "P7.5", l, 1, 1, 0)
	lies(t, "P7.1", d, file("log.00000001", "", ""))
	add(t, l, 1, "a", "b")
	stands(t, "P7.5", l, 1, 3, 0)
	expect(t, "P7.3", api.OK, l.Sync())
	holds(t, "P7.5", l, 1, 2, "a", "b")
	add(t, l, 3, "c")
	holds(t, "P7.5", l, 1, 2, "a", "b", "c")
	d.Crash([]int{13})
	l = open(t, d, least)
	holds(t, "P7.7", l, 1, 3, "a", "b", "c")
	add(t, l, 4, strings.Repeat("x", 50), "e")
	expect(t, "P7.3", api.OK, l.Sync(), l.Trim(5))
	holds(t, "P7.4", l, 5, 5, "e")
	lies(t, "P7.4", d, file("log.00000005", framed(t, "e"), ""))
}

// P7.1

func TestName(t *testing.T) {
	for _, c := range []struct {
		dir  string
		n    int
		want string
		e    api.Errno
	}{
		{"log", 1, "log.00000001", api.OK},
		{"x", 7, "x.00000007", api.OK},
		{"x", 10, "x.00000010", api.OK},
		{"x", 12345678, "x.12345678", api.OK},
		{"x", 1234567, "x.01234567", api.OK},
		{"x", most, "x.99999999", api.OK},
		{"abcdefghijk", most - 1, "abcdefghijk.99999998", api.OK},
		{".", 5, "..00000005", api.OK},
		{"\x00\xFF\n", 5, "\x00\xFF\n.00000005", api.OK},
		{"", 1, "", api.ErrName},
		{"abcdefghijkl", 1, "", api.ErrName},
		{"éééééé", 1, "", api.ErrName},
		{strings.Repeat("x", 1000), 1, "", api.ErrName},
		{"x", 0, "", api.ErrRange},
		{"x", -1, "", api.ErrRange},
		{"x", most + 1, "", api.ErrRange},
		{"x", math.MaxInt, "", api.ErrRange},
		{"x", math.MinInt, "", api.ErrRange},
		{"", 0, "", api.ErrName},
		{"abcdefghijkl", most + 1, "", api.ErrName},
	} {
		if got, e := wal.Name(c.dir, c.n); got != c.want || e != c.e {
			t.Errorf("P7.1: Name(%.20q, %d) returns %q, error %d, not %q, %d", c.dir, c.n, got, e, c.want, c.e)
		}
	}
}

// P7.2

func TestAppendIsAWriteOfAFrame(t *testing.T) {
	d := disk.New()
	l := open(t, d, 1000)
	before := d.Writes()
	add(t, l, 1, "one", "", "three\x00\xFF")
	if d.Writes() != before+3 {
		t.Errorf("P7.2: %d writes for three records", d.Writes()-before)
	}
	lies(t, "P7.2", d, file("log.00000001", "", framed(t, "one", "", "three\x00\xFF")))
	holds(t, "P7.2: not safe yet", l, 1, 0, "one", "", "three\x00\xFF")
}

func TestAppendBeginsASegment(t *testing.T) {
	for _, segment := range []int{least, least + 1, 100, 1000, api.MaxRecord} {
		for _, size := range []int{segment - 1, segment, segment + 1} {
			a, b := sized(30, "a"), sized(size-30, "b")
			d := disk.New()
			l := open(t, d, segment)
			add(t, l, 1, a, b)
			lies(t, "P7.2", d, file("log.00000001", "", framed(t, a, b)))
			before := d.Writes()
			add(t, l, 3, "c")
			if size < segment {
				lies(t, "P7.2: there is room", d, file("log.00000001", "", framed(t, a, b, "c")))
				stands(t, "P7.2", l, 1, 4, 0)
				continue
			}
			if d.Writes() != before+3 {
				t.Errorf("P7.2: %d writes, not Sync, Create and Append", d.Writes()-before)
			}
			lies(t, "P7.2: full", d, file("log.00000001", framed(t, a, b), ""), file("log.00000003", "", framed(t, "c")))
			holds(t, "P7.2: Synced as by Sync", l, 1, 2, a, b, "c")
		}
	}
}

func TestAppendOfTheLongest(t *testing.T) {
	d := disk.New()
	l := open(t, d, least)
	long := strings.Repeat("l", api.MaxRecord)
	for _, n := range []int{api.MaxRecord + 1, api.MaxRecord + 2, 2 * api.MaxRecord, api.MaxDisk + 1} {
		refuses(t, l, make([]byte, n), api.ErrLong)
	}
	add(t, l, 1, long)
	before := d.Writes()
	refuses(t, l, make([]byte, api.MaxRecord+1), api.ErrLong)
	if d.Writes() != before {
		t.Error("P7.2: ErrLong is told before anything is written")
	}
	add(t, l, 2, long)
	holds(t, "P7.2", l, 1, 1, long, long)
	lies(t, "P7.2", d, file("log.00000001", framed(t, long), ""), file("log.00000002", "", framed(t, long)))
}

func TestAppendOfTheLastNumber(t *testing.T) {
	d := load(t, file("log.99999998", framed(t, sized(least, "x")), ""))
	l := open(t, d, least)
	stands(t, "P7.1", l, most-1, most, most-1)
	add(t, l, most, sized(least, "y"))
	stands(t, "P7.2", l, most-1, most+1, most-1)
	before := d.Writes()
	refuses(t, l, nil, api.ErrRange)
	refuses(t, l, make([]byte, api.MaxRecord), api.ErrRange)
	refuses(t, l, make([]byte, api.MaxRecord+1), api.ErrLong)
	if d.Writes() != before {
		t.Error("P7.2: ErrRange is told before anything is written")
	}
	holds(t, "P7.2", l, most-1, most-1, sized(least, "x"), sized(least, "y"))
	d.Arm(1)
	refuses(t, l, nil, api.ErrRange)
	expect(t, "P7.3", api.ErrDown, l.Sync())
	refuses(t, l, nil, api.ErrRange)
	d.Crash([]int{least})
	l = open(t, d, least)
	holds(t, "P7.1", l, most-1, most, sized(least, "x"), sized(least, "y"))
	expect(t, "P7.4", api.OK, l.Trim(most))
	holds(t, "P7.4", l, most, most, sized(least, "y"))
}

// What a disk that fails one write leaves of an Append that begins a segment.
func TestAppendOnADiskThatFails(t *testing.T) {
	full, next := sized(least, "f"), "next"
	first := file("log.00000001", "", framed(t, full))
	synced := file("log.00000001", framed(t, full), "")
	for n, c := range []struct {
		safe  int
		files []api.File
	}{
		{0, []api.File{first}},
		{1, []api.File{synced}},
		{1, []api.File{synced, file("log.00000002", "", framed(t, next))}},
	} {
		d := disk.New()
		l := open(t, d, least)
		add(t, l, 1, full)
		d.Arm(n + 1)
		refuses(t, l, []byte(next), api.ErrDown)
		lies(t, "P7.2", d, c.files...)
		holds(t, "P7.2: the log has no further record", l, 1, c.safe, full)
		refuses(t, l, []byte(next), api.ErrDown)
		refuses(t, l, make([]byte, api.MaxRecord+1), api.ErrLong)
		expect(t, "P7.3", api.ErrDown, l.Sync())
		lies(t, "P7.2", d, c.files...)
		holds(t, "P7.2", l, 1, c.safe, full)
	}
}

// fill makes empty files, so that there are n of them.
func fill(t *testing.T, d *disk.Disk, n int) {
	t.Helper()
	for i := len(d.List()); i < n; i++ {
		expect(t, "P6.2", api.OK, d.Create("other"+string(rune('A'+i))))
	}
}

func TestAppendWithTooManyFiles(t *testing.T) {
	full := sized(least, "f")
	d := disk.New()
	l := open(t, d, least)
	fill(t, d, api.MaxFiles-1)
	add(t, l, 1, full, full)
	stands(t, "P7.2", l, 1, 3, 1)
	refuses(t, l, []byte("x"), api.ErrMany)
	holds(t, "P7.2: what was Synced stays so", l, 1, 2, full, full)
	refuses(t, l, []byte("x"), api.ErrMany)
	expect(t, "P7.4", api.OK, l.Trim(2))
	add(t, l, 3, "x")
	holds(t, "P7.2", l, 2, 2, full, "x")
}

func TestAppendOnAFullDisk(t *testing.T) {
	full := sized(least, "f")
	d := disk.New()
	l := open(t, d, least)
	add(t, l, 1, full)
	expect(t, "P6.2", api.OK, d.Create("other"), d.Append("other", make([]byte, api.MaxDisk-2*least+1)))
	refuses(t, l, []byte(full), api.ErrFull)
	holds(t, "P7.2", l, 1, 1, full)
	synced := file("log.00000001", framed(t, full), "")
	none := file("log.00000002", "", "")
	other := api.File{Name: "other", Data: make([]byte, api.MaxDisk-2*least+1)}
	lies(t, "P7.2: possibly an empty segment", d, synced, none, other)
	refuses(t, l, []byte(full), api.ErrFull)
	lies(t, "P7.2: no other one", d, synced, none, other)
	refuses(t, l, []byte(full)[:least-extra], api.ErrFull)
	expect(t, "P7.4: the empty segment is the last one", api.OK, l.Trim(9))
	holds(t, "P7.5", l, 2, 1)
	add(t, l, 2, full[1:]+"g")
	holds(t, "P7.2", l, 2, 1, full[1:]+"g")
	expect(t, "P7.3", api.OK, l.Sync())
	holds(t, "P7.3", l, 2, 2, full[1:]+"g")
	holds(t, "P7.8", open(t, d, least), 2, 2, full[1:]+"g")
}

// P7.3

func TestSync(t *testing.T) {
	d := disk.New()
	l := open(t, d, least)
	expect(t, "P7.3", api.OK, l.Sync())
	holds(t, "P7.3", l, 1, 0)
	a, b := sized(40, "a"), sized(40, "b")
	add(t, l, 1, a, b, "c", "d")
	stands(t, "P7.3", l, 1, 5, 2)
	before := d.Writes()
	expect(t, "P7.3", api.OK, l.Sync(), l.Sync())
	if d.Writes() != before+2 {
		t.Errorf("P7.3: %d writes for two Syncs", d.Writes()-before)
	}
	lies(t, "P7.3", d, file("log.00000001", framed(t, a, b), ""), file("log.00000003", framed(t, "c", "d"), ""))
	holds(t, "P7.3", l, 1, 4, a, b, "c", "d")
}

func TestSyncOnADiskThatFails(t *testing.T) {
	d := disk.New()
	l := open(t, d, least)
	add(t, l, 1, "a")
	expect(t, "P7.3", api.OK, l.Sync())
	add(t, l, 2, "b")
	d.Arm(1)
	expect(t, "P7.3", api.ErrDown, l.Sync(), l.Sync())
	holds(t, "P7.3: no further record is safe", l, 1, 1, "a", "b")
	lies(t, "P7.3", d, file("log.00000001", framed(t, "a"), framed(t, "b")))
}

// P7.4

// steps makes a log of the segments 1, 3, 4 and 6; the last one has the record 6, or nothing.
func steps(t *testing.T, d *disk.Disk) (*wal.Log, []string) {
	t.Helper()
	records := []string{sized(40, "a"), sized(40, "b"), sized(70, "c"), sized(63, "d"), sized(12, "e"), "f"}
	l := open(t, d, least)
	add(t, l, 1, records...)
	expect(t, "P7.3", api.OK, l.Sync())
	return l, records
}

func TestTrim(t *testing.T) {
	for below, first := range map[int]int{
		math.MinInt: 1, -1: 1, 0: 1, 1: 1, 2: 1, 3: 3, 4: 4, 5: 4, 6: 6, 7: 6, 8: 6, most: 6, math.MaxInt: 6,
	} {
		d := disk.New()
		l, records := steps(t, d)
		all, before := d.Files(), d.Writes()
		expect(t, "P7.4", api.OK, l.Trim(below))
		gone := map[int]int{1: 0, 3: 1, 4: 2, 6: 3}[first]
		if d.Writes() != before+gone {
			t.Errorf("P7.4: %d writes for %d segments", d.Writes()-before, gone)
		}
		lies(t, "P7.4", d, all[gone:]...)
		holds(t, "P7.4", l, first, 6, records[first-1:]...)
		expect(t, "P7.4: again", api.OK, l.Trim(below))
		add(t, l, 7, "g")
		holds(t, "P7.4", l, first, 6, append(slices.Clone(records[first-1:]), "g")...)
		expect(t, "P7.3", api.OK, l.Sync())
		holds(t, "P7.8", open(t, d, least), first, 7, append(slices.Clone(records[first-1:]), "g")...)
	}
}

func TestTrimOfLooseRecords(t *testing.T) {
	d := disk.New()
	l := open(t, d, least)
	full := sized(least, "f")
	add(t, l, 1, full, full)
	expect(t, "P7.4", api.OK, l.Trim(100))
	holds(t, "P7.4: the last one stays", l, 2, 1, full)
	expect(t, "P7.4", api.OK, l.Trim(100))
	holds(t, "P7.4", l, 2, 1, full)
}

func TestTrimOnADiskThatFails(t *testing.T) {
	for n, first := range []int{1, 3, 4} {
		d := disk.New()
		l, records := steps(t, d)
		all := d.Files()
		d.Arm(n + 1)
		expect(t, "P7.4", api.ErrDown, l.Trim(6), l.Trim(6))
		lies(t, "P7.4: what was removed stays removed", d, all[n:]...)
		holds(t, "P7.4", l, first, 6, records[first-1:]...)
		expect(t, "P7.4: nothing to remove", api.OK, l.Trim(first))
		d.Crash(nil)
		holds(t, "P7.7", open(t, d, least), first, 6, records[first-1:]...)
	}
}

// P7.5

func TestReadingWhileTheDiskIsDown(t *testing.T) {
	d := disk.New()
	l, records := steps(t, d)
	add(t, l, 7, "g")
	d.Arm(1)
	refuses(t, l, []byte("h"), api.ErrDown)
	holds(t, "P7.5", l, 1, 6, append(slices.Clone(records), "g")...)
}

// P7.6

func TestMemoryIsNew(t *testing.T) {
	l := open(t, disk.New(), least)
	room := []byte("one, and what lies behind it")
	p := room[:3]
	for n := range 4 {
		if got, e := l.Append(p); got != n+1 || e != api.OK {
			t.Fatalf("P7.2: %d, error %d", got, e)
		}
	}
	if string(room) != "one, and what lies behind it" {
		t.Errorf("P7.6: the argument has become %q", room)
	}
	clear(room)
	expect(t, "P7.3", api.OK, l.Sync())
	one, _ := l.Read(1)
	many, _ := l.From(1, 9)
	again, _ := l.From(1, 9)
	clear(one[:cap(one)])
	for i := range many {
		clear(append(many[i], "more than there was"...))
		clear(many[i][:cap(many[i])])
	}
	clear(many[:cap(many)])
	for _, b := range again {
		if string(b) != "one" {
			t.Errorf("P0.4: a record of another call has become %q", b)
		}
	}
	holds(t, "P0.4", l, 1, 4, "one", "one", "one", "one")
}

func TestLogsAreApart(t *testing.T) {
	d := disk.New()
	var logs []*wal.Log
	dirs := []string{"log", "lo", "logs", "log.", "log.0000000", "x"}
	for _, dir := range dirs {
		l, e := wal.Open(d, dir, least)
		if e != api.OK {
			t.Fatalf("P7.1: Open of %q: error %d", dir, e)
		}
		logs = append(logs, l)
	}
	for round := range 3 {
		for i, l := range logs {
			add(t, l, round+1, sized(least, dirs[i][:1]))
			expect(t, "P7.3", api.OK, l.Sync())
		}
	}
	for i, dir := range dirs {
		l, e := wal.Open(d, dir, least)
		if e != api.OK {
			t.Fatalf("P7.1: Open of %q: error %d", dir, e)
		}
		r := sized(least, dirs[i][:1])
		holds(t, "P7.8", l, 1, 3, r, r, r)
	}
}
