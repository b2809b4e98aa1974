package wal_test

import (
	"strings"
	"testing"

	"headrace/api"
	"headrace/disk"
	"headrace/wal"
)

// diary is what was told of a log up to a crash: its records from first on, how many of them are safe,
// and the record whose Append returned ErrDown, if there is one.
type diary struct {
	first   int
	records []string
	safe    int
	maybe   []string
}

// work uses a log until the disk is down, and writes down what it tells.
func (y *diary) work(t *testing.T, l *wal.Log, round int) {
	t.Helper()
	for i := range 9 {
		r := strings.Repeat(string(rune('a'+len(y.records)%26)), 5+(i+round)*7%40)
		n, e := l.Append([]byte(r))
		switch e {
		case api.OK:
			if n != y.first+len(y.records) {
				t.Fatalf("P7.2: Append returns %d, not %d", n, y.first+len(y.records))
			}
			y.records = append(y.records, r)
		case api.ErrDown:
			y.maybe = []string{r}
			y.safe = l.Safe()
			return
		default:
			t.Fatalf("P7.2: error %d", e)
		}
		if i%3 == 1 {
			l.Sync()
		}
		if i == 6 {
			l.Trim(l.Safe() - 1)
			y.trimmed(l.First())
		}
		y.safe = l.Safe()
	}
}

// trimmed forgets the records below first.
func (y *diary) trimmed(first int) {
	y.records = y.records[first-y.first:]
	y.first = first
}

// found holds a log that was opened again to the diary, which goes on with what the log has (P7.7).
func (y *diary) found(t *testing.T, l *wal.Log) {
	t.Helper()
	whole := append(append([]string{}, y.records...), y.maybe...)
	n := l.Next() - l.First()
	if l.First() != y.first || l.Next() <= y.safe || n > len(whole) || l.Safe() != l.Next()-1 {
		t.Fatalf("P7.7: First %d, Next %d, Safe %d after a log from %d, with %d records and %d, up to %d safe", l.First(), l.Next(), l.Safe(), y.first, len(y.records), len(y.maybe), y.safe)
	}
	for i, w := range whole[:n] {
		if b, e := l.Read(y.first + i); string(b) != w || e != api.OK {
			t.Fatalf("P7.7: record %d is %q, error %d, not %q", y.first+i, b, e, w)
		}
	}
	y.records, y.maybe, y.safe = whole[:n], nil, l.Safe()
}

// again crashes and opens until an Open returns OK; each Open is the victim of a crash of its own at first.
func (y *diary) again(t *testing.T, d *disk.Disk, pick int) *wal.Log {
	t.Helper()
	d.Crash([]int{pick, pick})
	for n := 1; n <= 2; n++ {
		d.Arm(n)
		l, e := wal.Open(d, "log", least)
		if e == api.OK {
			d.Arm(0)
			y.found(t, l)
			return l
		}
		if e != api.ErrDown || l != nil {
			t.Fatalf("P7.7: Open: error %d", e)
		}
		d.Crash([]int{pick / 3})
	}
	l := open(t, d, least)
	y.found(t, l)
	return l
}

// P7.7: a crash at each write, with each number of bytes that it may keep, and another one at each write
// after it.
func TestCrashesAtEachWrite(t *testing.T) {
	for first := 1; first <= 26; first++ {
		for pick := range 75 {
			d := disk.New()
			y := diary{first: 1}
			l := open(t, d, least)
			d.Arm(first)
			y.work(t, l, 0)
			l = y.again(t, d, pick)
			for round := 1; round <= 3; round++ {
				d.Arm((first*7+pick*round)%20 + 1)
				y.work(t, l, round)
				l = y.again(t, d, pick*round%61)
			}
		}
	}
}

// P7.7: a crash that no write fails for, and one within each Open of a log that is torn.
func TestCrashKeepsEachNumberOfBytes(t *testing.T) {
	records := []string{"one", "", "three", sized(40, "4"), "five"}
	ends := []int{15, 27, 44, 84, 100}
	for safe := range 4 {
		for keep := range 101 {
			d := disk.New()
			l := open(t, d, 1000)
			add(t, l, 1, records[:safe]...)
			expect(t, "P7.3", api.OK, l.Sync())
			add(t, l, safe+1, records[safe:]...)
			start := 0
			if safe > 0 {
				start = ends[safe-1]
			}
			if keep < start {
				continue
			}
			d.Crash([]int{keep - start})
			want := safe
			for want < len(ends) && ends[want] <= keep {
				want++
			}
			for n := 1; n <= 2; n++ {
				c := d.Copy()
				c.Arm(n)
				wal.Open(c, "log", 1000)
				c.Crash([]int{keep})
				holds(t, "P7.7: a crash within Open", open(t, c, 1000), 1, want, records[:want]...)
			}
			l = open(t, d, 1000)
			holds(t, "P7.7", l, 1, want, records[:want]...)
			add(t, l, want+1, "more")
			expect(t, "P7.3", api.OK, l.Sync())
			d.Crash([]int{keep})
			holds(t, "P7.7: the log continues", open(t, d, 1000), 1, want+1, append(records[:want:want], "more")...)
		}
	}
}
