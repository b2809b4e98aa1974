package frame_test

import (
	"bytes"
	"encoding/binary"
	"math"
	"slices"
	"testing"

	"headrace/api"
	"headrace/frame"
)

// records turns texts into records.
func records(texts ...string) [][]byte {
	var l [][]byte
	for _, s := range texts {
		l = append(l, []byte(s))
	}
	return l
}

// row returns the frames of the records, one behind the other, and where each of them ends.
func row(t *testing.T, l [][]byte) (b []byte, ends []int) {
	t.Helper()
	for _, p := range l {
		f, e := frame.Frame(p)
		if e != api.OK {
			t.Fatalf("P5.2: Frame of %d bytes: error %d", len(p), e)
		}
		b = append(b, f...)
		ends = append(ends, len(b))
	}
	return b, ends
}

// sameRecords tells whether both have the same records.
func sameRecords(a, b [][]byte) bool { return slices.EqualFunc(a, b, bytes.Equal) }

// hold holds Scan of b to these records and this end.
func hold(t *testing.T, promise string, b []byte, want [][]byte, end int) {
	t.Helper()
	if got, n := frame.Scan(b); !sameRecords(got, want) || n != end {
		t.Fatalf("%s: Scan of %d bytes, %.60x: %.60x, %d, not %.60x, %d", promise, len(b), b, got, n, want, end)
	}
}

// wanted is P5.3 by the library.
func wanted(b []byte) (l [][]byte, end int) {
	for {
		rest := b[end:]
		if len(rest) < 8 || binary.LittleEndian.Uint32(rest[4:]) != sum(rest[:4]) {
			return l, end
		}
		n := uint64(binary.LittleEndian.Uint32(rest))
		if n > api.MaxRecord || uint64(len(rest)) < n+extra {
			return l, end
		}
		p := rest[8 : 8+n]
		if binary.LittleEndian.Uint32(rest[8+n:]) != sum(p) {
			return l, end
		}
		l = append(l, p)
		end += int(n) + extra
	}
}

// rows lists rows of records: none, empty ones, ones that look like frames, long ones.
func rows() [][][]byte {
	inner := framed([]byte("inner"))
	return [][][]byte{
		nil,
		records(""),
		records("", "", ""),
		records("a", ""),
		records("", "a"),
		records("first", "second", "third"),
		{inner, framed(inner), inner[:len(inner)-1]},
		{make([]byte, 12), make([]byte, 40), make([]byte, 8)},
		{bytes.Repeat([]byte{0xFF}, 5), tower(300, 1), noise(70, 3)},
		{noise(256, 1), noise(255, 2), nil, noise(1, 4)},
	}
}

// tails lists bytes that are not the beginning of a complete frame, not even with the frames that follow them in a test.
func tails() [][]byte {
	whole := framed([]byte("what is torn"))
	return [][]byte{
		nil, {7}, {0}, make([]byte, 4), make([]byte, 8), make([]byte, 12), make([]byte, 100), bytes.Repeat([]byte{0xFF}, 30),
		whole[:4], whole[:8], whole[:len(whole)-1], []byte("no frame at all, but long enough for one"), noise(50, 9),
	}
}

// P5.3

func TestScanOfTheExample(t *testing.T) {
	b, _ := row(t, records("a", ""))
	hold(t, "P5.3", append(b, 7), records("a", ""), 25)
	hold(t, "P5.3", nil, nil, 0)
	hold(t, "P5.3", []byte{}, nil, 0)
}

func TestScanOfLongRecords(t *testing.T) {
	for _, n := range lengths() {
		p := noise(n, 21)
		hold(t, "P5.3", framed(p), [][]byte{p}, n+extra)
		hold(t, "P5.3", append(framed(p), "x"...), [][]byte{p}, n+extra)
		hold(t, "P5.3", framed(p)[:n+extra-1], nil, 0)
		hold(t, "P5.3", append(framed(p), framed(p)...), [][]byte{p, p}, 2*(n+extra))
	}
}

func TestScanOfManyFrames(t *testing.T) {
	var l [][]byte
	for i := range 3000 {
		l = append(l, noise(i%50, uint64(i)))
	}
	b, ends := row(t, l)
	hold(t, "P5.3", b, l, len(b))
	hold(t, "P5.3", b[:len(b)-1], l[:2999], ends[2998])
	hold(t, "P5.3", make([]byte, 1<<16), nil, 0)
}

func TestScanRefusesTooLongRecords(t *testing.T) {
	before := framed([]byte("before"))
	for _, n := range []int{api.MaxRecord + 1, api.MaxRecord + 2, 2 * api.MaxRecord, 1 << 24} {
		// All is there, and all sums are right: the length alone is too great.
		b := framed(make([]byte, n))
		hold(t, "P5.3", b, nil, 0)
		hold(t, "P5.3", slices.Concat(before, b, before), records("before"), len(before))
	}
}

// headed returns a frame with the length n in front of p, whatever length p has, and right sums of both.
func headed(n uint32, p []byte) []byte {
	length := binary.LittleEndian.AppendUint32(nil, n)
	b := binary.LittleEndian.AppendUint32(bytes.Clone(length), sum(length))
	b = append(b, p...)
	return binary.LittleEndian.AppendUint32(b, sum(p))
}

func TestScanRefusesLengthsThatAreNotTheRecords(t *testing.T) {
	p := []byte("record")
	for _, n := range []uint32{0, 1, 5, 7, 8, 10, 11, 100, 1 << 8, 1 << 16, api.MaxRecord, api.MaxRecord + 1, 1 << 24, math.MaxInt32, 1 << 31, 1<<31 + 6, math.MaxUint32 - 3, math.MaxUint32} {
		hold(t, "P5.3", headed(n, p), nil, 0)
		hold(t, "P5.3", append(headed(n, p), noise(40, 2)...), nil, 0)
	}
	hold(t, "P5.3", headed(6, p), [][]byte{p}, 18)
}

func TestScanAsksForBothSums(t *testing.T) {
	p := []byte("record")
	good := framed(p)
	// A part that is changed together with its own sum is told by nothing; one without is refused.
	other := framed([]byte("Record"))
	hold(t, "P5.3", slices.Concat(good[:8], other[8:]), records("Record"), 18)
	hold(t, "P5.3", slices.Concat(good[:8], other[8:14], good[14:]), nil, 0)
	hold(t, "P5.3", slices.Concat(good[:4], make([]byte, 4), good[8:]), nil, 0)
	hold(t, "P5.3", slices.Concat(good[:14], make([]byte, 4)), nil, 0)
	// The sums and the length in the other order of bytes.
	for _, from := range []int{0, 4, 14} {
		b := bytes.Clone(good)
		slices.Reverse(b[from : from+4])
		hold(t, "P5.3", b, nil, 0)
	}
	b := binary.BigEndian.AppendUint32(nil, 6)
	b = binary.LittleEndian.AppendUint32(b, sum(b))
	hold(t, "P5.3", append(b, good[8:]...), nil, 0)
}

func TestScanStopsAtTheFirstBadFrame(t *testing.T) {
	good := framed([]byte("good"))
	for _, bad := range tails()[1:] {
		hold(t, "P5.3", append(bytes.Clone(bad), good...), nil, 0)
		hold(t, "P5.3", slices.Concat(good, bad, good, good), records("good"), len(good))
	}
}

func TestScanByTheLibrary(t *testing.T) {
	seed := uint64(17)
	pick := func(n int) int {
		seed = next(seed)
		return int(seed >> 33 % uint64(n))
	}
	for range 20000 {
		var b []byte
		for range pick(4) {
			b = append(b, framed(noise(pick(20), uint64(pick(1000))))...)
		}
		for range pick(3) {
			if len(b) > 0 {
				b[pick(len(b))] ^= byte(1 << pick(8))
			}
		}
		b = append(b[:len(b)-pick(len(b)+1)*pick(2)], noise(pick(3)*pick(20), 8)...)
		l, end := wanted(b)
		hold(t, "P5.3", b, l, end)
	}
}

// P5.4

func TestScanIsNewMemory(t *testing.T) {
	l := records("one", "", "three", "four")
	b, _ := row(t, l)
	kept := bytes.Clone(b)
	one, _ := frame.Scan(b)
	two, _ := frame.Scan(b)
	for i := range one {
		clear(one[i][:cap(one[i])])
		one[i] = append(one[i], "more than there was"...)
		clear(one[i][:cap(one[i])])
	}
	clear(one[:cap(one)])
	if !bytes.Equal(b, kept) || !sameRecords(two, l) {
		t.Error("P5.4: the records share memory with the argument, or with those of another call")
	}
	three, _ := frame.Scan(b)
	for i := range three {
		if !bytes.Equal(three[i], l[i]) {
			t.Errorf("P5.4: what was written into the records before record %d reaches it: %q", i, three[i])
		}
		clear(append(three[i], "more"...))
		clear(three[i][:cap(three[i])])
	}
	clear(b)
	if !sameRecords(two, l) {
		t.Error("P5.4: the records keep the argument")
	}
}

func TestScanReadsNothingBehindItsArgument(t *testing.T) {
	l := records("one", "two")
	b, ends := row(t, l)
	for k := range b {
		want := 0
		for want < len(ends) && ends[want] <= k {
			want++
		}
		got, _ := frame.Scan(b[:k])
		if !sameRecords(got, l[:want]) {
			t.Fatalf("P0.4: Scan of %d bytes of %d finds %q", k, len(b), got)
		}
	}
}

// P5.5

func TestScanOfWhatIsFramed(t *testing.T) {
	for _, l := range rows() {
		b, _ := row(t, l)
		for _, tail := range tails() {
			hold(t, "P5.5", append(bytes.Clone(b), tail...), l, len(b))
		}
	}
}

func TestScanOfFramesWithAByteChanged(t *testing.T) {
	for _, l := range rows() {
		b, ends := row(t, l)
		whole, end := 0, 0
		for i := range b {
			if i == ends[whole] {
				end = ends[whole]
				whole++
			}
			for x := 1; x < 256; x++ {
				b[i] ^= byte(x)
				hold(t, "P5.5", b, l[:whole], end)
				b[i] ^= byte(x)
			}
		}
	}
}

func TestScanOfFramesThatAreCut(t *testing.T) {
	for _, l := range rows() {
		b, ends := row(t, l)
		whole, end := 0, 0
		for n := range len(b) {
			if n == ends[whole] {
				end = ends[whole]
				whole++
			}
			hold(t, "P5.5", bytes.Clone(b[:n]), l[:whole], end)
		}
	}
}

func TestScanOfFramesWithAByteMissingBetween(t *testing.T) {
	l := records("first", "second", "third")
	b, ends := row(t, l)
	for i := range 2 {
		for cut := 1; cut < len(l[i])+extra; cut++ {
			torn := slices.Concat(b[:ends[i]-cut], b[ends[i]:])
			hold(t, "P5.5", torn, l[:i], ends[i]-len(l[i])-extra)
		}
	}
}

// A missing byte that the next frame happens to begin with is not missed: by P5.3 the frame is complete.
func TestScanOfFramesThatLendAByte(t *testing.T) {
	b, ends := row(t, records("", ""))
	torn := slices.Concat(b[:ends[0]-1], b[ends[0]:])
	hold(t, "P5.3", torn, records(""), ends[0])
}
