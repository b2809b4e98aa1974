package mvcc

import (
	"slices"

	"headrace/api"
	"headrace/hlc"
)

// Resolve decides the pending transaction t: its writes become versions with the stamp, or nothing.
func (s *Store) Resolve(t api.Txn, commit bool, at api.Stamp) api.Errno {
	if e := s.Would(t, commit, at); e != api.OK {
		return e
	}
	p := s.pending[t]
	s.release(p)
	if !commit {
		return api.OK
	}
	for _, w := range p.Writes {
		l := s.versions[w.Key]
		i, _ := find(l, at)
		s.versions[w.Key] = slices.Insert(l, i, api.Version{Stamp: at, Value: w.Value})
	}
	return api.OK
}

// Would returns the error that Resolve would return, and changes nothing.
func (s *Store) Would(t api.Txn, commit bool, at api.Stamp) api.Errno {
	p, has := s.pending[t]
	switch {
	case !has:
		return api.ErrNone
	case !commit:
		return api.OK
	case !hlc.May(at):
		return api.ErrStamp
	case hlc.Compare(at, p.Stamp) < 0:
		return api.ErrOld
	case s.isMade(p, at):
		return api.ErrTwice
	default:
		return api.OK
	}
}

// isMade tells whether a key that p writes has a version with exactly this stamp. As long as p is pending, the versions
// of these keys stay below its stamp, so that there is none; the chapter tells the error all the same.
func (s *Store) isMade(p api.Pending, at api.Stamp) bool {
	for _, w := range p.Writes {
		if _, found := find(s.versions[w.Key], at); found {
			return true
		}
	}
	return false
}
