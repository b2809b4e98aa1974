package mvcc

import (
	"cmp"

	"headrace/api"
	"headrace/datum"
	"headrace/hlc"
)

// TxnMay tells whether t is a valid number of a transaction.
func TxnMay(t api.Txn) bool {
	return t.Coord >= 1 && t.Coord <= api.MaxCoords && t.Life >= 1 && t.Seq >= 1
}

// TxnLess tells whether a comes before b; they need not be valid.
func TxnLess(a, b api.Txn) bool {
	return compareTxns(a, b) < 0
}

// compareTxns returns -1, 0 or 1 if a comes before b, is the same, or comes after b.
func compareTxns(a, b api.Txn) int {
	switch {
	case a.Coord != b.Coord:
		return cmp.Compare(a.Coord, b.Coord)
	case a.Life != b.Life:
		return cmp.Compare(a.Life, b.Life)
	default:
		return cmp.Compare(a.Seq, b.Seq)
	}
}

// PendingMay returns OK if p is valid, and its first error otherwise.
func PendingMay(p api.Pending) api.Errno {
	if !TxnMay(p.Txn) {
		return api.ErrForm
	}
	if !hlc.May(p.Stamp) || p.Stamp == (api.Stamp{}) {
		return api.ErrStamp
	}
	if !areKeys(p.Reads) || !areWrites(p.Writes) {
		return api.ErrForm
	}
	return api.OK
}

// areKeys tells whether l has keys that a transaction may read, or write: not too many, in strictly ascending order.
func areKeys(l []string) bool {
	if len(l) > api.MaxKeys {
		return false
	}
	before := ""
	for _, key := range l {
		if !datum.Key(key) || key <= before {
			return false
		}
		before = key
	}
	return true
}

// areWrites tells whether l has the writes that a transaction may have.
func areWrites(l []api.Write) bool {
	var keys []string
	for _, w := range l {
		if !datum.May(w.Value) {
			return false
		}
		keys = append(keys, w.Key)
	}
	return areKeys(keys)
}
