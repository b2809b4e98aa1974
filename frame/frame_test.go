package frame_test

import (
	"bytes"
	"encoding/binary"
	"hash/crc32"
	"math/big"
	"testing"

	"headrace/api"
	"headrace/frame"
)

// extra is what P5.2 says that a frame has beside its record.
const extra = 12

// next steps through all numbers of 64 bits.
func next(x uint64) uint64 {
	x = x*6364136223846793005 + 1442695040888963407
	return x ^ x>>29
}

// noise returns n bytes of all kinds, the same ones for the same seed.
func noise(n int, seed uint64) []byte {
	b := make([]byte, n)
	for i := range b {
		seed = next(seed)
		b[i] = byte(seed >> 40)
	}
	return b
}

// tower returns n bytes that rise from the first one.
func tower(n int, first byte) []byte {
	b := make([]byte, n)
	for i := range b {
		b[i] = first + byte(i)
	}
	return b
}

// sum is P5.1 by the library.
func sum(b []byte) uint32 { return crc32.Checksum(b, crc32.MakeTable(crc32.Castagnoli)) }

// divided is P5.1 by division of polynomials, in integers of any size.
func divided(b []byte) uint32 {
	// The bits of the bytes, the lowest first, with 32 more at the end.
	n := new(big.Int)
	for _, x := range b {
		for bit := range 8 {
			n.Lsh(n, 1)
			n.Or(n, big.NewInt(int64(x>>bit&1)))
		}
	}
	n.Lsh(n, 32)
	// A register of all ones is as good as the first 32 bits inverted.
	ones := big.NewInt(0xFFFFFFFF)
	n.Xor(n, new(big.Int).Lsh(ones, uint(8*len(b))))
	divisor := big.NewInt(0x11EDC6F41)
	for n.BitLen() > 32 {
		n.Xor(n, new(big.Int).Lsh(divisor, uint(n.BitLen()-33)))
	}
	left := uint32(n.Uint64())
	var out uint32
	for bit := range 32 {
		out |= left >> bit & 1 << (31 - bit)
	}
	return ^out
}

// framed is P5.2 by the library, for a record of any length.
func framed(p []byte) []byte {
	length := binary.LittleEndian.AppendUint32(nil, uint32(len(p)))
	b := binary.LittleEndian.AppendUint32(bytes.Clone(length), sum(length))
	b = append(b, p...)
	return binary.LittleEndian.AppendUint32(b, sum(p))
}

// lengths lists lengths of records at which a byte of the length changes, or the limit lies, and others.
func lengths() []int {
	l := []int{0, 1, 2, 3, 4, 5, 7, 8, 9, 12, 13, 63, 64, 65, 255, 256, 257, 511, 512, 4095, 65535, 65536, 65537, 131072}
	return append(l, api.MaxRecord-1, api.MaxRecord)
}

// P5.1

func TestSumOfKnownBytes(t *testing.T) {
	for _, c := range []struct {
		b    []byte
		want uint32
	}{
		{nil, 0},
		{[]byte{}, 0},
		{[]byte("123456789"), 0xE3069283},
		{make([]byte, 4), 0x48674BC7},
		{[]byte{0}, 0x527D5351},
		{[]byte("a"), 0xC1D04330},
		{make([]byte, 32), 0x8A9136AA},
		{bytes.Repeat([]byte{0xFF}, 32), 0x62A8AB43},
		{tower(32, 0), 0x46DD794E},
		{[]byte{0xFF, 0xFF, 0xFF, 0xFF}, 0xFFFFFFFF},
	} {
		if got := frame.Sum(c.b); got != c.want {
			t.Errorf("P5.1: Sum(%x) is %08X, not %08X", c.b, got, c.want)
		}
	}
}

func TestSumByDivision(t *testing.T) {
	for n := range 100 {
		for seed := range uint64(20) {
			b := noise(n, seed)
			if got, want := frame.Sum(b), divided(b); got != want {
				t.Fatalf("P5.1: Sum(%x) is %08X, not %08X", b, got, want)
			}
		}
	}
}

func TestSumOfAllShortBytes(t *testing.T) {
	hold := func(b []byte) {
		if got, want := frame.Sum(b), sum(b); got != want {
			t.Fatalf("P5.1: Sum(%x) is %08X, not %08X", b, got, want)
		}
	}
	for i := range 1 << 16 {
		hold([]byte{byte(i)})
		hold([]byte{byte(i), byte(i >> 8)})
		hold([]byte{0xFF, byte(i), 0, byte(i >> 8)})
	}
	for n := range 2000 {
		hold(noise(n, uint64(n)))
	}
	for _, n := range []int{api.MaxRecord, api.MaxRecord + 1, api.MaxDisk} {
		hold(noise(n, 5))
	}
}

// P5.2

func TestFrameOfKnownRecords(t *testing.T) {
	for _, c := range []struct{ p, want string }{
		{"", "\x00\x00\x00\x00\xC7\x4B\x67\x48\x00\x00\x00\x00"},
		{"a", "\x01\x00\x00\x00\x7F\xE1\x22\x95" + "a" + "\x30\x43\xD0\xC1"},
		{"123456789", "\x09\x00\x00\x00\x99\x82\x66\x63" + "123456789" + "\x83\x92\x06\xE3"},
	} {
		b, e := frame.Frame([]byte(c.p))
		if string(b) != c.want || e != api.OK {
			t.Errorf("P5.2: Frame(%q) is % X, %d, not % X", c.p, b, e, c.want)
		}
	}
}

func TestFrameOfAllLengths(t *testing.T) {
	all := lengths()
	for n := range 600 {
		all = append(all, n)
	}
	for _, n := range all {
		for _, p := range [][]byte{noise(n, 11), make([]byte, n), bytes.Repeat([]byte{0xFF}, n)} {
			b, e := frame.Frame(p)
			if e != api.OK || len(b) != n+extra || !bytes.Equal(b, framed(p)) {
				t.Fatalf("P5.2: Frame of %d bytes: %d bytes, error %d, not as it should be", n, len(b), e)
			}
		}
	}
}

func TestFrameOfTooLongRecords(t *testing.T) {
	for _, n := range []int{api.MaxRecord + 1, api.MaxRecord + 2, 2 * api.MaxRecord, api.MaxDisk, 1<<24 + 1} {
		if b, e := frame.Frame(make([]byte, n)); e != api.ErrLong || len(b) != 0 {
			t.Errorf("P5.2: Frame of %d bytes: %d bytes, error %d, not ErrLong alone", n, len(b), e)
		}
	}
}

// P5.4

func TestFrameIsNewMemory(t *testing.T) {
	room := []byte("record, and what lies behind it")
	kept := bytes.Clone(room)
	p := room[:6]
	one, _ := frame.Frame(p)
	two, _ := frame.Frame(p)
	frame.Sum(p)
	if !bytes.Equal(room, kept) {
		t.Errorf("P5.4: the argument or what lies behind it has become %q", room)
	}
	want := framed([]byte("record"))
	clear(one[:cap(one)])
	if !bytes.Equal(room, kept) || !bytes.Equal(two, want) {
		t.Error("P5.4: a frame shares memory with the record or with another frame")
	}
	clear(room)
	if !bytes.Equal(two, want) {
		t.Error("P5.4: a frame keeps the record that was handed in")
	}
	if three, _ := frame.Frame(kept[:6]); !bytes.Equal(three, want) {
		t.Error("P0.5: what a caller wrote into a frame reaches a later one")
	}
}
