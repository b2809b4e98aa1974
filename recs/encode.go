package recs

import (
	"headrace/api"
	"headrace/datum"
	"headrace/wire"
)

// Encode returns the bytes of r.
func Encode(r api.Rec) ([]byte, api.Errno) {
	if e := May(r); e != api.OK {
		return nil, e
	}
	w := wire.NewWriter()
	w.Int(r.Kind)
	for _, f := range named(r.Kind) {
		put(w, r, f)
	}
	b := w.Bytes()
	if len(b) > api.MaxRecord {
		return nil, api.ErrLong
	}
	return b, api.OK
}

// PutState writes s, valid or not.
func PutState(w *wire.Writer, s api.State) {
	w.Int(s.Range.ID)
	w.Int(s.Range.Epoch)
	w.Float(s.Range.Lo)
	w.Float(s.Range.Hi)
	putStamp(w, s.Floor)
	putStamp(w, s.Closed)
	putList(w, s.Histories, putHistory)
	putList(w, s.Pending, putPending)
}

// putList writes the number of the elements of l, and each by its own way.
func putList[T any](w *wire.Writer, l []T, put func(*wire.Writer, T)) {
	w.Int(len(l))
	for _, one := range l {
		put(w, one)
	}
}

func putTxn(w *wire.Writer, t api.Txn) {
	w.Int(t.Coord)
	w.Int(t.Life)
	w.Int(t.Seq)
}

func putStamp(w *wire.Writer, s api.Stamp) {
	w.Int(s.Wall)
	w.Int(s.Logical)
	w.Int(s.Node)
}

func putWrite(w *wire.Writer, one api.Write) {
	w.Text(one.Key)
	datum.Put(w, one.Value)
}

func putPair(w *wire.Writer, p api.Pair) {
	putWrite(w, api.Write(p))
}

func putVersion(w *wire.Writer, v api.Version) {
	putStamp(w, v.Stamp)
	datum.Put(w, v.Value)
}

func putHistory(w *wire.Writer, h api.History) {
	w.Text(h.Key)
	putList(w, h.Versions, putVersion)
}

func putPending(w *wire.Writer, p api.Pending) {
	putTxn(w, p.Txn)
	putStamp(w, p.Stamp)
	putList(w, p.Reads, (*wire.Writer).Text)
	putList(w, p.Writes, putWrite)
}
