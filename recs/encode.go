package recs

import (
	"headrace/api"
	"headrace/datum"
	"headrace/pack"
	"headrace/wire"
)

// Encode returns the bytes of r.
func Encode(r api.Rec) ([]byte, api.Errno) {
	if e := May(r); e != api.OK {
		return nil, e
	}
	w := wire.NewWriter()
	w.Int(r.Kind)
	for _, f := range named(r.Kind) {
		put(w, r, f)
	}
	b := w.Bytes()
	if len(b) > api.MaxRecord {
		return nil, api.ErrLong
	}
	return b, api.OK
}

// PutState writes s, valid or not.
func PutState(w *wire.Writer, s api.State) {
	pack.PutRange(w, s.Range)
	pack.PutStamp(w, s.Floor)
	pack.PutStamp(w, s.Closed)
	pack.PutList(w, s.Histories, putHistory)
	pack.PutList(w, s.Pending, putPending)
}

func putPair(w *wire.Writer, p api.Pair) {
	pack.PutWrite(w, api.Write(p))
}

func putVersion(w *wire.Writer, v api.Version) {
	pack.PutStamp(w, v.Stamp)
	datum.Put(w, v.Value)
}

func putHistory(w *wire.Writer, h api.History) {
	w.Text(h.Key)
	pack.PutList(w, h.Versions, putVersion)
}

func putPending(w *wire.Writer, p api.Pending) {
	pack.PutTxn(w, p.Txn)
	pack.PutStamp(w, p.Stamp)
	pack.PutList(w, p.Reads, (*wire.Writer).Text)
	pack.PutList(w, p.Writes, pack.PutWrite)
}
