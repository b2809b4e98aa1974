// Package pack: what records and messages are made of, as bytes (the encoding of chapter 11).
package pack

import (
	"headrace/api"
	"headrace/datum"
	"headrace/wire"
)

// PutList writes the number of the elements of l, and each by its own way.
func PutList[T any](w *wire.Writer, l []T, put func(*wire.Writer, T)) {
	w.Int(len(l))
	for _, one := range l {
		put(w, one)
	}
}

// PutTxn writes a transaction's number.
func PutTxn(w *wire.Writer, t api.Txn) {
	w.Int(t.Coord)
	w.Int(t.Life)
	w.Int(t.Seq)
}

// PutStamp writes a stamp, valid or not.
func PutStamp(w *wire.Writer, s api.Stamp) {
	w.Int(s.Wall)
	w.Int(s.Logical)
	w.Int(s.Node)
}

// PutWrite writes what a key becomes.
func PutWrite(w *wire.Writer, one api.Write) {
	w.Text(one.Key)
	datum.Put(w, one.Value)
}

// PutRange writes a range, valid or not.
func PutRange(w *wire.Writer, r api.Range) {
	w.Int(r.ID)
	w.Int(r.Epoch)
	w.Float(r.Lo)
	w.Float(r.Hi)
}
