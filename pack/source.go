package pack

import (
	"headrace/api"
	"headrace/datum"
	"headrace/wire"
)

// Source reads from a Reader, and gives up as soon as that has a fault: by a panic with Sign, so that each package that
// reads has a panic of its own.
type Source struct {
	Reader *wire.Reader
	Sign   error
}

// Sure returns what was read, if the Reader has no fault.
func Sure[T any](s Source, x T) T {
	if e, _ := s.Reader.Fault(); e != api.OK {
		panic(s.Sign)
	}
	return x
}

// End gives up if bytes are left.
func (s Source) End() {
	if s.Reader.Left() > 0 {
		panic(s.Sign)
	}
}

// Number reads an integer.
func (s Source) Number() int {
	return Sure(s, s.Reader.Int())
}

// Flag reads a bool.
func (s Source) Flag() bool {
	return Sure(s, s.Reader.Flag())
}

// Float reads a float.
func (s Source) Float() float64 {
	return Sure(s, s.Reader.Float())
}

// Text reads a key, or another string that is not a value; none is longer than a record.
func (s Source) Text() string {
	return Sure(s, s.Reader.Text(api.MaxRecord))
}

// Value reads a value.
func (s Source) Value() api.Value {
	return Sure(s, datum.Get(s.Reader))
}

// List reads a list, each element by its own way, which takes a byte or more. Room for it is made as elements are read:
// what the count says may not be there.
func List[T any](s Source, one func(Source) T) []T {
	var l []T
	for range Sure(s, s.Reader.Count(s.Reader.Left())) {
		l = append(l, one(s))
	}
	return l
}

// The fields of a literal are read in the order in which they stand there.

// Txn reads a transaction's number.
func (s Source) Txn() api.Txn {
	return api.Txn{Coord: s.Number(), Life: s.Number(), Seq: s.Number()}
}

// Stamp reads a stamp, valid or not.
func (s Source) Stamp() api.Stamp {
	return api.Stamp{Wall: s.Number(), Logical: s.Number(), Node: s.Number()}
}

// Write reads what a key becomes.
func (s Source) Write() api.Write {
	return api.Write{Key: s.Text(), Value: s.Value()}
}

// Range reads a range, valid or not.
func (s Source) Range() api.Range {
	return api.Range{ID: s.Number(), Epoch: s.Number(), Lo: s.Float(), Hi: s.Float()}
}
