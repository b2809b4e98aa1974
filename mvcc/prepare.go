package mvcc

import (
	"slices"

	"headrace/api"
	"headrace/hlc"
)

// lock is what pending transactions do with a key; the zero lock is none.
type lock struct {
	// writer is the one that writes the key. No transaction has the zero Txn.
	writer  api.Txn
	readers int
}

// Prepare makes p pending, if what it saw of the keys that it reads is still so.
func (s *Store) Prepare(p api.Pending, seen []api.Seen) api.Errno {
	if e := PendingMay(p); e != api.OK {
		return e
	}
	if !areOf(seen, p.Reads) {
		return api.ErrForm
	}
	if _, has := s.pending[p.Txn]; has {
		return api.ErrTwice
	}
	if hlc.Compare(p.Stamp, s.low) <= 0 {
		return api.ErrOld
	}
	if s.isLocked(p) {
		return api.ErrLocked
	}
	if s.areStale(seen) {
		return api.ErrStale
	}
	if s.isOld(p) {
		return api.ErrOld
	}
	s.hold(p)
	return api.OK
}

// areOf tells whether the keys of seen are these, in their order.
func areOf(seen []api.Seen, keys []string) bool {
	return slices.EqualFunc(seen, keys, func(one api.Seen, key string) bool {
		return one.Key == key
	})
}

// isLocked tells whether a pending transaction stands in the way of p by a key that one of the two writes.
func (s *Store) isLocked(p api.Pending) bool {
	for _, key := range p.Reads {
		if _, has := s.writer(key); has {
			return true
		}
	}
	for _, w := range p.Writes {
		if s.locks[w.Key] != (lock{}) {
			return true
		}
	}
	return false
}

// writer returns the pending transaction that writes the key, and whether there is one.
func (s *Store) writer(key string) (api.Pending, bool) {
	p, has := s.pending[s.locks[key].writer]
	return p, has
}

// areStale tells whether a newer version of a key is there than was seen.
func (s *Store) areStale(seen []api.Seen) bool {
	for _, one := range seen {
		if s.Newest(one.Key).Stamp != one.Stamp {
			return true
		}
	}
	return false
}

// isOld tells whether p writes a key that has a version at the stamp of p or above it.
func (s *Store) isOld(p api.Pending) bool {
	for _, w := range p.Writes {
		if hlc.Compare(p.Stamp, s.Newest(w.Key).Stamp) <= 0 {
			return true
		}
	}
	return false
}

// hold keeps p as pending, and locks its keys.
func (s *Store) hold(p api.Pending) {
	s.pending[p.Txn] = copyOf(p)
	for _, key := range p.Reads {
		k := s.locks[key]
		k.readers++
		s.locks[key] = k
	}
	for _, w := range p.Writes {
		k := s.locks[w.Key]
		k.writer = p.Txn
		s.locks[w.Key] = k
	}
}

// release ends that p is pending, and unlocks its keys.
func (s *Store) release(p api.Pending) {
	delete(s.pending, p.Txn)
	for _, key := range p.Reads {
		k := s.locks[key]
		k.readers--
		s.relock(key, k)
	}
	for _, w := range p.Writes {
		k := s.locks[w.Key]
		k.writer = api.Txn{}
		s.relock(w.Key, k)
	}
}

// relock keeps what is left of a key's lock, so that locks has no more keys than pending transactions have.
func (s *Store) relock(key string, k lock) {
	if k == (lock{}) {
		delete(s.locks, key)
		return
	}
	s.locks[key] = k
}
