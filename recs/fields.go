package recs

import (
	"headrace/api"
	"headrace/pack"
	"headrace/wire"
)

// field is one of the fields of a record beside its Kind.
type field int

const (
	fieldTxn field = iota
	fieldStamp
	fieldPrev
	fieldCommit
	fieldN
	fieldPoint
	fieldReads
	fieldWrites
	fieldParts
	fieldPairs
	fieldState
	fieldCount
)

// named returns the fields that a kind names, in the order in which they are written, or nil if it is no kind: there is
// none that names no field.
func named(kind int) []field {
	switch kind {
	case api.RBirth:
		return []field{fieldState}
	case api.RCeil, api.RTook, api.RBoot:
		return []field{fieldN}
	case api.RPrepare:
		return []field{fieldTxn, fieldStamp, fieldReads, fieldWrites, fieldParts}
	case api.RDecide:
		return []field{fieldTxn, fieldCommit, fieldStamp}
	case api.RClose:
		return []field{fieldStamp}
	case api.RSplit:
		return []field{fieldPoint, fieldN, fieldStamp}
	case api.RCommit:
		return []field{fieldTxn, fieldStamp, fieldParts}
	case api.REnd:
		return []field{fieldTxn}
	case api.RApply:
		return []field{fieldPrev, fieldStamp, fieldTxn, fieldWrites}
	case api.RBase:
		return []field{fieldStamp, fieldPairs}
	default:
		return nil
	}
}

// isZero tells whether a field of r has its zero value.
func isZero(r api.Rec, f field) bool {
	switch f {
	case fieldTxn:
		return r.Txn == api.Txn{}
	case fieldStamp:
		return r.Stamp == api.Stamp{}
	case fieldPrev:
		return r.Prev == api.Stamp{}
	case fieldCommit:
		return !r.Commit
	case fieldN:
		return r.N == 0
	case fieldPoint:
		return isPlusZero(r.Point)
	case fieldReads:
		return len(r.Reads) == 0
	case fieldWrites:
		return len(r.Writes) == 0
	case fieldParts:
		return len(r.Parts) == 0
	case fieldPairs:
		return len(r.Pairs) == 0
	default:
		return isZeroState(r.State)
	}
}

// put writes a field of r.
func put(w *wire.Writer, r api.Rec, f field) {
	switch f {
	case fieldTxn:
		pack.PutTxn(w, r.Txn)
	case fieldStamp:
		pack.PutStamp(w, r.Stamp)
	case fieldPrev:
		pack.PutStamp(w, r.Prev)
	case fieldCommit:
		w.Flag(r.Commit)
	case fieldN:
		w.Int(r.N)
	case fieldPoint:
		w.Float(r.Point)
	case fieldReads:
		pack.PutList(w, r.Reads, (*wire.Writer).Text)
	case fieldWrites:
		pack.PutList(w, r.Writes, pack.PutWrite)
	case fieldParts:
		pack.PutList(w, r.Parts, (*wire.Writer).Int)
	case fieldPairs:
		pack.PutList(w, r.Pairs, putPair)
	case fieldState:
		PutState(w, r.State)
	}
}

// get reads a field of r.
func get(s pack.Source, r *api.Rec, f field) {
	switch f {
	case fieldTxn:
		r.Txn = s.Txn()
	case fieldStamp:
		r.Stamp = s.Stamp()
	case fieldPrev:
		r.Prev = s.Stamp()
	case fieldCommit:
		r.Commit = s.Flag()
	case fieldN:
		r.N = s.Number()
	case fieldPoint:
		r.Point = s.Float()
	case fieldReads:
		r.Reads = pack.List(s, pack.Source.Text)
	case fieldWrites:
		r.Writes = pack.List(s, pack.Source.Write)
	case fieldParts:
		r.Parts = pack.List(s, pack.Source.Number)
	case fieldPairs:
		r.Pairs = pack.List(s, pair)
	case fieldState:
		r.State = state(s)
	}
}
