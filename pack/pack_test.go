package pack_test

import (
	"math"
	"slices"
	"testing"

	"headrace/api"
	"headrace/pack"
	"headrace/wire"
)

// sign is the panic of the tests.
type sign struct{}

func (sign) Error() string { return "given up" }

// caught returns what a call panics with, or nil.
func caught(call func()) (x any) {
	defer func() { x = recover() }()
	call()
	return nil
}

// of is a Source of these bytes.
func of(b string) pack.Source {
	return pack.Source{Reader: wire.NewReader([]byte(b)), Sign: sign{}}
}

// written is what a call writes.
func written(put func(w *wire.Writer)) string {
	w := wire.NewWriter()
	put(w)
	return string(w.Bytes())
}

func TestWhatIsWrittenIsRead(t *testing.T) {
	txn, stamp := api.Txn{Coord: 1, Life: -2, Seq: math.MaxInt}, api.Stamp{Wall: math.MinInt, Logical: 6, Node: 7}
	write, span := api.Write{Key: "a", Value: api.Value{Kind: api.Text, Text: "xy"}}, api.Range{ID: 4, Epoch: -3, Lo: 0.25, Hi: math.Inf(1)}
	b := written(func(w *wire.Writer) {
		pack.PutTxn(w, txn)
		pack.PutStamp(w, stamp)
		pack.PutWrite(w, write)
		pack.PutRange(w, span)
		pack.PutList(w, []int{5, 6, 7}, (*wire.Writer).Int)
		pack.PutList(w, nil, (*wire.Writer).Text)
		w.Flag(true)
		w.Float(0.5)
	})
	s := of(b)
	if s.Txn() != txn || s.Stamp() != stamp || s.Write() != write || s.Range() != span || !slices.Equal(pack.List(s, pack.Source.Number), []int{5, 6, 7}) || pack.List(s, pack.Source.Text) != nil || !s.Flag() || s.Float() != 0.5 {
		t.Errorf("P11.2: %x is read as another", b)
	}
	s.End()
	reads := func(s pack.Source) {
		s.Txn()
		s.Stamp()
		s.Write()
		s.Range()
		pack.List(s, pack.Source.Number)
		pack.List(s, pack.Source.Text)
		s.Flag()
		s.Float()
	}
	for size := range b {
		if x := caught(func() { reads(of(b[:size])) }); x != any(sign{}) {
			t.Errorf("%d bytes of %x are read; caught %v", size, b, x)
		}
	}
}

func TestFieldsAreWrittenInTheirOrder(t *testing.T) {
	for want, put := range map[string]func(w *wire.Writer){
		"\x02\x04\x06": func(w *wire.Writer) { pack.PutTxn(w, api.Txn{Coord: 1, Life: 2, Seq: 3}) }, "\x0a\x0c\x0e": func(w *wire.Writer) { pack.PutStamp(w, api.Stamp{Wall: 5, Logical: 6, Node: 7}) },
		"\x02a\x04\x02x": func(w *wire.Writer) {
			pack.PutWrite(w, api.Write{Key: "a", Value: api.Value{Kind: api.Text, Text: "x"}})
		}, "\x04\x02a\x02b": func(w *wire.Writer) { pack.PutList(w, []string{"a", "b"}, (*wire.Writer).Text) },
		"\x08\x04\x00\x00\x00\x00\x00\x00\xd0\x3f\x00\x00\x00\x00\x00\x00\xe0\x3f": func(w *wire.Writer) { pack.PutRange(w, api.Range{ID: 4, Epoch: 2, Lo: 0.25, Hi: 0.5}) },
	} {
		if got := written(put); got != want {
			t.Errorf("P11.2: %x, not %x", got, want)
		}
	}
}

func TestWhatCannotBeReadIsGivenUp(t *testing.T) {
	for _, read := range []func(s pack.Source){
		func(s pack.Source) { s.Number() }, func(s pack.Source) { s.Flag() }, func(s pack.Source) { s.Float() }, func(s pack.Source) { s.Text() }, func(s pack.Source) { s.Value() }, func(s pack.Source) { s.Txn() }, func(s pack.Source) { s.Stamp() }, func(s pack.Source) { s.Write() }, func(s pack.Source) { s.Range() },
		func(s pack.Source) { pack.List(s, pack.Source.Number) }, func(s pack.Source) { pack.Sure(s, s.Reader.Int()) },
	} {
		for _, b := range []string{"", "\x80", "\xff\xff"} {
			if x := caught(func() { read(of(b)) }); x != any(sign{}) {
				t.Errorf("%x is read; caught %v", b, x)
			}
		}
	}
	if x := caught(func() { of("\x00").End() }); x != any(sign{}) {
		t.Errorf("a byte is left; caught %v", x)
	}
	if x := caught(func() { pack.List(of("\x06\x00\x00"), pack.Source.Number) }); x != any(sign{}) {
		t.Errorf("a list has fewer elements than its number says; caught %v", x)
	}
}
