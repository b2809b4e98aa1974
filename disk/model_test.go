package disk_test

import (
	"bytes"
	"math/rand"
	"slices"
	"strings"
	"testing"

	"headrace/api"
	"headrace/disk"
)

// shape is all of a disk that can be seen, and its arming; every write makes a new one.
type shape struct {
	files  []api.File
	writes int
	armed  int
	down   bool
}

// at returns the place of the file with this name, or -1.
func (s shape) at(name string) int {
	return slices.IndexFunc(s.files, func(f api.File) bool { return f.Name == name })
}

// size returns the number of all bytes.
func (s shape) size() (n int) {
	for _, f := range s.files {
		n += len(f.Data)
	}
	return n
}

// with returns the shape with the file in the place of that with its name, or as a new one.
func (s shape) with(f api.File) shape {
	s = s.without(f.Name)
	s.files = append(s.files, f)
	slices.SortFunc(s.files, func(a, b api.File) int { return strings.Compare(a.Name, b.Name) })
	return s
}

// without returns the shape without the file of this name.
func (s shape) without(name string) shape {
	s.files = slices.DeleteFunc(slices.Clone(s.files), func(f api.File) bool { return f.Name == name })
	return s
}

// act is a call of a write.
type act struct {
	kind string
	name string
	to   string
	n    int
	b    []byte
}

// refusal returns the first error of the write's own (P6.2).
func (s shape) refusal(a act) api.Errno {
	good := func(n string) bool { return n != "" && len(n) <= 20 }
	i := s.at(a.name)
	switch {
	case a.kind == "create" && !good(a.name):
		return api.ErrName
	case a.kind == "create" && i >= 0:
		return api.ErrTwice
	case a.kind == "create" && len(s.files) == 64:
		return api.ErrMany
	case a.kind != "create" && i < 0:
		return api.ErrNone
	case a.kind == "append" && s.size()+len(a.b) > 4194304:
		return api.ErrFull
	case a.kind == "cut" && (a.n < 0 || a.n > len(s.files[i].Data)):
		return api.ErrRange
	case a.kind == "rename" && !good(a.to):
		return api.ErrName
	}
	return api.OK
}

// done returns the shape after the effect of a write that has no error.
func (s shape) done(a act) shape {
	f := api.File{Name: a.name}
	if i := s.at(a.name); i >= 0 {
		f = s.files[i]
	}
	switch a.kind {
	case "append":
		f.Data = slices.Concat(f.Data, a.b)
	case "sync":
		f.Safe = len(f.Data)
	case "cut":
		f.Data, f.Safe = f.Data[:a.n], min(f.Safe, a.n)
	case "rename":
		f.Name = a.to
		s = s.without(a.name)
	case "remove":
		return s.without(a.name)
	}
	return s.with(f)
}

// write returns the shape after a write, and what it tells (P6.2, P6.3).
func (s shape) write(a act) (shape, api.Errno) {
	if s.down {
		return s, api.ErrDown
	}
	if e := s.refusal(a); e != api.OK {
		return s, e
	}
	if s.armed == 1 {
		if a.kind == "append" {
			s = s.done(a)
		}
		s.down = true
		return s, api.ErrDown
	}
	s.armed = max(s.armed-1, 0)
	s.writes++
	return s.done(a), api.OK
}

// crash returns the shape after a crash (P6.4).
func (s shape) crash(picks []int) shape {
	torn := 0
	for _, f := range s.files {
		if f.Safe == len(f.Data) {
			continue
		}
		keep := 0
		if torn < len(picks) && picks[torn] >= 0 {
			keep = picks[torn] % (len(f.Data) - f.Safe + 1)
		}
		torn++
		f.Data = f.Data[:f.Safe+keep]
		f.Safe = len(f.Data)
		s = s.with(f)
	}
	s.down, s.armed = false, 0
	return s
}

// do makes the call of the disk.
func do(d *disk.Disk, a act) api.Errno {
	switch a.kind {
	case "create":
		return d.Create(a.name)
	case "append":
		return d.Append(a.name, a.b)
	case "sync":
		return d.Sync(a.name)
	case "cut":
		return d.Cut(a.name, a.n)
	case "rename":
		return d.Rename(a.name, a.to)
	}
	return d.Remove(a.name)
}

// choose returns a write.
func choose(r *rand.Rand) act {
	kinds := []string{"create", "create", "append", "append", "append", "append", "sync", "cut", "rename", "remove"}
	names := []string{"a", "b", "c", "d", "e", "f", "", "twenty bytes of name", "twentyone bytes of it"}
	a := act{kind: kinds[r.Intn(len(kinds))], name: names[r.Intn(len(names))], to: names[r.Intn(len(names))], n: r.Intn(12) - 1}
	a.b = make([]byte, r.Intn(6))
	r.Read(a.b)
	return a
}

// someNumbers returns picks, or none.
func someNumbers(r *rand.Rand) []int {
	l := make([]int, r.Intn(6))
	for i := range l {
		l[i] = r.Intn(20) - 3
	}
	return l
}

// P6.1 to P6.7: whatever is called, in whatever order.
func TestRowsOfCalls(t *testing.T) {
	for seed := range int64(400) {
		r := rand.New(rand.NewSource(seed))
		d, s := disk.New(), shape{}
		for step := range 300 {
			switch k := r.Intn(40); {
			case k == 0:
				picks := someNumbers(r)
				d.Crash(picks)
				s = s.crash(picks)
			case k == 1:
				n := r.Intn(15) - 2
				d.Arm(n)
				if !s.down {
					s.armed = max(n, 0)
				}
			case k == 2:
				d = halfUsed(d, r)
			case k == 3 && !s.down && s.armed == 0:
				// A disk that is loaded has the same files, and counts anew.
				d, _ = disk.Load(d.Files())
				s.writes = 0
			default:
				a := choose(r)
				e := do(d, a)
				var want api.Errno
				if s, want = s.write(a); e != want {
					t.Fatalf("P6.2: seed %d, step %d: %+v: error %d, not %d", seed, step, a, e, want)
				}
			}
			stands(t, "P6.3", d, s.writes, s.down)
			holds(t, "P6.2", d, s.files...)
		}
	}
}

// halfUsed returns one of a disk and its copy, after the other one was written to.
func halfUsed(d *disk.Disk, r *rand.Rand) *disk.Disk {
	c := d.Copy()
	if r.Intn(2) == 0 {
		c, d = d, c
	}
	for range 10 {
		do(c, choose(r))
	}
	c.Crash(someNumbers(r))
	return d
}

// P6.7: safe bytes, then a prefix of the others, then nothing.
func TestCrashLeavesAPrefix(t *testing.T) {
	for seed := range int64(200) {
		r := rand.New(rand.NewSource(seed))
		d := disk.New()
		for range 60 {
			do(d, choose(r))
		}
		d.Arm(r.Intn(4))
		for range 4 {
			do(d, choose(r))
		}
		before := d.Files()
		d.Crash(someNumbers(r))
		after := d.Files()
		if len(before) != len(after) {
			t.Fatalf("P6.7: %d files became %d", len(before), len(after))
		}
		for i, f := range after {
			was := before[i]
			if f.Name != was.Name || f.Safe != len(f.Data) || f.Safe < was.Safe || !bytes.HasPrefix(was.Data, f.Data) {
				t.Fatalf("P6.7: %+v became %+v", was, f)
			}
		}
		d.Crash(someNumbers(r))
		holds(t, "P6.7", d, after...)
	}
}
