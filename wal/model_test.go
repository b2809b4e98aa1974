package wal_test

import (
	"bytes"
	"fmt"
	"math/rand"
	"slices"
	"strconv"
	"strings"
	"testing"

	"headrace/api"
	"headrace/disk"
	"headrace/frame"
	"headrace/wal"
)

// plain is the chapter, word by word, on a disk of its own: all that it can, it reads there each time.
type plain struct {
	d       *disk.Disk
	dir     string
	segment int
	next    int
	safe    int
}

// numbers lists the numbers of the segments.
func (p *plain) numbers() (l []int) {
	for _, name := range p.d.List() {
		front, digits, ok := strings.Cut(name, p.dir+".")
		if n, err := strconv.ParseUint(digits, 10, 32); ok && front == "" && len(digits) == 8 && err == nil && n > 0 {
			l = append(l, int(n))
		}
	}
	return l
}

// name names a segment.
func (p *plain) name(n int) string { return fmt.Sprintf("%s.%08d", p.dir, n) }

// scan reads a segment.
func (p *plain) scan(n int) (records [][]byte, end, length int) {
	b, _ := p.d.Read(p.name(n))
	records, end = frame.Scan(b)
	return records, end, len(b)
}

func (p *plain) open() api.Errno {
	if p.d.Down() {
		return api.ErrDown
	}
	l := p.numbers()
	if len(l) == 0 {
		p.next, p.safe = 1, 0
		return p.d.Create(p.name(1))
	}
	for i, n := range l[:len(l)-1] {
		records, end, length := p.scan(n)
		if end != length || l[i+1] != n+len(records) {
			return api.ErrCorrupt
		}
	}
	last := l[len(l)-1]
	records, end, length := p.scan(last)
	if end < length {
		if e := p.d.Cut(p.name(last), end); e != api.OK {
			return e
		}
	}
	p.next = last + len(records)
	return p.sync()
}

func (p *plain) sync() api.Errno {
	l := p.numbers()
	e := p.d.Sync(p.name(l[len(l)-1]))
	if e == api.OK {
		p.safe = p.next - 1
	}
	return e
}

func (p *plain) append(b []byte) (int, api.Errno) {
	if len(b) > 262144 {
		return 0, api.ErrLong
	}
	if p.next > 99999999 {
		return 0, api.ErrRange
	}
	l := p.numbers()
	last := l[len(l)-1]
	if _, _, length := p.scan(last); length >= p.segment {
		if e := p.sync(); e != api.OK {
			return 0, e
		}
		if e := p.d.Create(p.name(p.next)); e != api.OK {
			return 0, e
		}
		last = p.next
	}
	f, _ := frame.Frame(b)
	if e := p.d.Append(p.name(last), f); e != api.OK {
		return 0, e
	}
	p.next++
	return p.next - 1, api.OK
}

func (p *plain) trim(below int) api.Errno {
	for l := p.numbers(); len(l) > 1 && l[1]-1 < below; l = l[1:] {
		if e := p.d.Remove(p.name(l[0])); e != api.OK {
			return e
		}
	}
	return api.OK
}

// all reads the records of all segments.
func (p *plain) all() (l [][]byte) {
	for _, n := range p.numbers() {
		records, _, _ := p.scan(n)
		l = append(l, records...)
	}
	return l
}

func (p *plain) read(n int) ([]byte, api.Errno) {
	first := p.numbers()[0]
	if n < first || n >= p.next {
		return nil, api.ErrNone
	}
	return p.all()[n-first], api.OK
}

func (p *plain) from(n, most int) (out [][]byte, e api.Errno) {
	first := p.numbers()[0]
	if n < first || n > p.safe+1 {
		return nil, api.ErrNone
	}
	for i, b := range p.all() {
		if first+i >= n && first+i <= p.safe && len(out) < most {
			out = append(out, b)
		}
	}
	return out, api.OK
}

// pair is a log and the chapter beside it.
type pair struct {
	t    *testing.T
	r    *rand.Rand
	what string
	d    *disk.Disk
	l    *wal.Log
	p    plain
}

// same holds an error to that of the chapter, and the disk to the disk.
func (x *pair) same(call string, got, want api.Errno) {
	x.t.Helper()
	if got != want {
		x.t.Fatalf("%s: %s: error %d, not %d", x.what, call, got, want)
	}
	lies(x.t, x.what+": "+call, x.d, x.p.d.Files()...)
	if x.d.Writes() != x.p.d.Writes() || x.d.Down() != x.p.d.Down() {
		x.t.Fatalf("%s: %s: %d writes, down %t, not %d, %t", x.what, call, x.d.Writes(), x.d.Down(), x.p.d.Writes(), x.p.d.Down())
	}
}

// open opens both, or leaves the log nil.
func (x *pair) open(segment int) {
	x.t.Helper()
	x.p.segment = segment
	want := x.p.open()
	l, e := wal.Open(x.d, x.p.dir, segment)
	x.same("P7.1: Open", e, want)
	if (l != nil) != (e == api.OK) {
		x.t.Fatalf("%s: P7.1: a log beside error %d: %t", x.what, e, l != nil)
	}
	x.l = l
}

// crash crashes both, maybe armed before.
func (x *pair) crash() {
	var picks []int
	for range x.r.Intn(3) {
		picks = append(picks, x.r.Intn(120)-5)
	}
	x.d.Crash(picks)
	x.p.d.Crash(picks)
	x.l = nil
}

// step makes a call of both.
func (x *pair) step() {
	x.t.Helper()
	r := x.r
	if x.l == nil {
		if x.d.Down() {
			x.crash()
		}
		x.open([]int{64, 65, 80, 150, 1000}[r.Intn(5)])
		return
	}
	switch k := r.Intn(30); {
	case k == 0:
		x.crash()
	case k == 1:
		n := r.Intn(12) - 1
		x.d.Arm(n)
		x.p.d.Arm(n)
	case k == 2:
		x.open(x.p.segment)
	case k < 14:
		x.append()
	case k < 18:
		x.same("P7.3: Sync", x.l.Sync(), x.p.sync())
	case k < 20:
		below := x.p.next - r.Intn(20)
		x.same("P7.4: Trim", x.l.Trim(below), x.p.trim(below))
	case k < 26:
		x.read(x.p.next - r.Intn(30) + 2)
	default:
		x.from(x.p.next-r.Intn(30)+2, r.Intn(12)-1)
	}
	if x.l != nil {
		stands(x.t, x.what, x.l, x.p.numbers()[0], x.p.next, x.p.safe)
	}
}

func (x *pair) append() {
	x.t.Helper()
	b := make([]byte, x.r.Intn(70))
	if x.r.Intn(1000) == 0 {
		b = make([]byte, api.MaxRecord-1+x.r.Intn(3))
	}
	x.r.Read(b)
	want, we := x.p.append(b)
	n, e := x.l.Append(b)
	x.same("P7.2: Append", e, we)
	if n != want {
		x.t.Fatalf("%s: P7.2: Append returns %d, not %d", x.what, n, want)
	}
}

func (x *pair) read(n int) {
	x.t.Helper()
	want, we := x.p.read(n)
	b, e := x.l.Read(n)
	x.same("P7.5: Read", e, we)
	if !bytes.Equal(b, want) {
		x.t.Fatalf("%s: P7.5: Read(%d) returns %.100x, not %.100x", x.what, n, b, want)
	}
}

func (x *pair) from(n, most int) {
	x.t.Helper()
	want, we := x.p.from(n, most)
	l, e := x.l.From(n, most)
	x.same("P7.5: From", e, we)
	if !slices.EqualFunc(l, want, bytes.Equal) {
		x.t.Fatalf("%s: P7.5: From(%d, %d) returns %.300x, not %.300x", x.what, n, most, l, want)
	}
}

// P7.1 to P7.8: whatever is called, in whatever order.
func TestRowsOfCalls(t *testing.T) {
	for seed := range int64(300) {
		r := rand.New(rand.NewSource(seed))
		var files []api.File
		if seed%5 == 0 {
			files = append(files, file("log.99999980", framed(t, "x", "y"), "torn"))
		}
		if seed%60 == 1 {
			files = append(files, api.File{Name: "other", Data: make([]byte, api.MaxDisk-500), Safe: 7})
		}
		x := &pair{t: t, r: r, d: load(t, files...), p: plain{d: load(t, files...), dir: "log"}}
		if seed%3 == 0 {
			fill(t, x.d, 57)
			fill(t, x.p.d, 57)
		}
		for i := range 250 {
			x.what = fmt.Sprintf("seed %d, step %d", seed, i)
			x.step()
		}
	}
}
