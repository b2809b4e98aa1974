package msgs

import (
	"slices"

	"headrace/api"
	"headrace/pack"
	"headrace/recs"
	"headrace/wire"
)

// field is one of the fields of a message beside its Kind and its nodes.
type field int

const (
	fieldTxn field = iota
	fieldRange
	fieldEpoch
	fieldCode
	fieldStamp
	fieldPrev
	fieldCommit
	fieldN
	fieldMax
	fieldKeys
	fieldSeen
	fieldWrites
	fieldParts
	fieldRanges
	fieldRecs
	fieldState
	fieldCount
)

// named returns the fields that a kind names, in the order in which they are written, and whether it is a kind.
func named(kind int) ([]field, bool) {
	switch kind {
	case api.MRead:
		return []field{fieldTxn, fieldRange, fieldEpoch, fieldStamp, fieldKeys}, true
	case api.MSeen:
		return []field{fieldTxn, fieldRange, fieldCode, fieldStamp, fieldSeen, fieldRanges}, true
	case api.MPrepare:
		return []field{fieldTxn, fieldRange, fieldEpoch, fieldStamp, fieldSeen, fieldWrites, fieldParts}, true
	case api.MVote:
		return []field{fieldTxn, fieldRange, fieldCode, fieldStamp, fieldRanges}, true
	case api.MDecide:
		return []field{fieldTxn, fieldRange, fieldCommit, fieldStamp}, true
	case api.MDone, api.MAsk:
		return []field{fieldTxn, fieldRange}, true
	case api.MPull:
		return []field{fieldRange, fieldN, fieldMax, fieldStamp}, true
	case api.MBatch:
		return []field{fieldRange, fieldN, fieldRecs}, true
	case api.MHand:
		return []field{fieldRange, fieldState}, true
	case api.MTook:
		return []field{fieldRange}, true
	case api.MApply:
		return []field{fieldPrev, fieldStamp, fieldTxn, fieldWrites}, true
	case api.MHello:
		return nil, true
	case api.MHigh:
		return []field{fieldStamp}, true
	default:
		return nil, false
	}
}

// isZero tells whether a field of m has its zero value: such a field alone is written with no bit set, and minus zero has
// one.
func isZero(m api.Msg, f field) bool {
	w := wire.NewWriter()
	put(w, m, f)
	return !slices.ContainsFunc(w.Bytes(), func(b byte) bool { return b != 0 })
}

// put writes a field of m.
func put(w *wire.Writer, m api.Msg, f field) {
	switch f {
	case fieldTxn:
		pack.PutTxn(w, m.Txn)
	case fieldRange:
		w.Int(m.Range)
	case fieldEpoch:
		w.Int(m.Epoch)
	case fieldCode:
		w.Int(int(m.Code))
	case fieldStamp:
		pack.PutStamp(w, m.Stamp)
	case fieldPrev:
		pack.PutStamp(w, m.Prev)
	case fieldCommit:
		w.Flag(m.Commit)
	case fieldN:
		w.Int(m.N)
	case fieldMax:
		w.Int(m.Max)
	case fieldKeys:
		pack.PutList(w, m.Keys, (*wire.Writer).Text)
	case fieldSeen:
		pack.PutList(w, m.Seen, putSeen)
	case fieldWrites:
		pack.PutList(w, m.Writes, pack.PutWrite)
	case fieldParts:
		pack.PutList(w, m.Parts, (*wire.Writer).Int)
	case fieldRanges:
		pack.PutList(w, m.Ranges, pack.PutRange)
	case fieldRecs:
		pack.PutList(w, m.Recs, putRec)
	case fieldState:
		recs.PutState(w, m.State)
	}
}

// get reads a field of m.
func get(s pack.Source, m *api.Msg, f field) {
	switch f {
	case fieldTxn:
		m.Txn = s.Txn()
	case fieldRange:
		m.Range = s.Number()
	case fieldEpoch:
		m.Epoch = s.Number()
	case fieldCode:
		m.Code = api.Errno(s.Number())
	case fieldStamp:
		m.Stamp = s.Stamp()
	case fieldPrev:
		m.Prev = s.Stamp()
	case fieldCommit:
		m.Commit = s.Flag()
	case fieldN:
		m.N = s.Number()
	case fieldMax:
		m.Max = s.Number()
	case fieldKeys:
		m.Keys = pack.List(s, pack.Source.Text)
	case fieldSeen:
		m.Seen = pack.List(s, seen)
	case fieldWrites:
		m.Writes = pack.List(s, pack.Source.Write)
	case fieldParts:
		m.Parts = pack.List(s, pack.Source.Number)
	case fieldRanges:
		m.Ranges = pack.List(s, pack.Source.Range)
	case fieldRecs:
		m.Recs = pack.List(s, rec)
	case fieldState:
		m.State = pack.Sure(s, recs.GetState(s.Reader))
	}
}
