package wal

import (
	"strconv"
	"strings"

	"headrace/api"
	"headrace/disk"
	"headrace/frame"
)

// minSegment is the least number of bytes with which a segment may count as full.
const minSegment = 64

// Open opens the log dir on the disk.
func Open(d *disk.Disk, dir string, segment int) (*Log, api.Errno) {
	if _, e := Name(dir, 1); e != api.OK {
		return nil, e
	}
	if segment < minSegment || segment > api.MaxRecord {
		return nil, api.ErrRange
	}
	if d.Down() {
		return nil, api.ErrDown
	}
	l := &Log{disk: d, dir: strings.Clone(dir), full: segment}
	if e := l.start(); e != api.OK {
		return nil, e
	}
	return l, api.OK
}

// start takes in the segments that are there, or begins the first one.
func (l *Log) start() api.Errno {
	l.segments = l.find()
	if len(l.segments) == 0 {
		return l.begin(1)
	}
	return l.load()
}

// find returns the segments that the disk has, still without their records. Their numbers have one
// length in the names, so that the order of the names is theirs.
func (l *Log) find() []file {
	var found []file
	for _, name := range l.disk.List() {
		if n, ok := l.number(name); ok {
			found = append(found, file{name: name, first: n})
		}
	}
	return found
}

// number returns the number of the segment that has this name, if there is one.
func (l *Log) number(name string) (int, bool) {
	digits, ok := strings.CutPrefix(name, l.dir+".")
	if !ok {
		return 0, false
	}
	n, err := strconv.Atoi(digits)
	if err != nil {
		return 0, false
	}
	// Atoi reads more forms than the one that a name has.
	if made, e := Name(l.dir, n); e != api.OK || made != name {
		return 0, false
	}
	return n, true
}

// load reads the records of the segments, and makes them safe. Only the last segment may be torn:
// what is behind its frames is cut away, for no Open would find a record that is appended there.
func (l *Log) load() api.Errno {
	torn := false
segments:
	for i := range l.segments {
		f := &l.segments[i]
		b, e := l.disk.Read(f.name)
		if e != api.OK {
			return e
		}
		f.records, f.size = frame.Scan(b)
		torn = f.size < len(b)
		switch {
		case i == len(l.segments)-1:
			break segments
		case torn || f.next() != l.segments[i+1].first:
			return api.ErrCorrupt
		}
	}
	if torn {
		if e := l.disk.Cut(l.last().name, l.last().size); e != api.OK {
			return e
		}
	}
	return l.Sync()
}
