package recs

import (
	"headrace/api"
	"headrace/datum"
	"headrace/wire"
)

// unreadable is the panic by which a read is given up.
type unreadable struct{}

// Error returns a text.
func (unreadable) Error() string {
	return "recs: there is no record in these bytes"
}

// isGivenUp tells whether a read was given up, and lets every panic that is not this package's go on.
func isGivenUp(caught any) bool {
	switch caught.(type) {
	case nil:
		return false
	case unreadable:
		return true
	default:
		panic(caught)
	}
}

// Decode returns the record whose bytes are b.
func Decode(b []byte) (r api.Rec, e api.Errno) {
	defer func() {
		if isGivenUp(recover()) {
			r, e = api.Rec{}, api.ErrForm
		}
	}()
	if len(b) > api.MaxRecord {
		panic(unreadable{})
	}
	s := source{wire.NewReader(b)}
	r = s.record()
	s.end()
	if May(r) != api.OK {
		panic(unreadable{})
	}
	return r, api.OK
}

// GetState reads a State, valid or not; it is zero if the Reader has a fault.
func GetState(r *wire.Reader) (s api.State) {
	defer func() {
		if isGivenUp(recover()) {
			s = api.State{}
		}
	}()
	return source{r}.state()
}

// source reads from a Reader, and gives up as soon as that has a fault.
type source struct {
	reader *wire.Reader
}

// sure returns what was read, if the Reader has no fault.
func sure[T any](s source, x T) T {
	if e, _ := s.reader.Fault(); e != api.OK {
		panic(unreadable{})
	}
	return x
}

// end gives up if bytes are left.
func (s source) end() {
	if s.reader.Left() > 0 {
		panic(unreadable{})
	}
}

func (s source) number() int {
	return sure(s, s.reader.Int())
}

func (s source) flag() bool {
	return sure(s, s.reader.Flag())
}

func (s source) float() float64 {
	return sure(s, s.reader.Float())
}

func (s source) text() string {
	return sure(s, s.reader.Text(api.MaxRecord))
}

func (s source) value() api.Value {
	return sure(s, datum.Get(s.reader))
}

// count reads the number of the elements of a list, each of which takes a byte or more.
func (s source) count() int {
	return sure(s, s.reader.Count(s.reader.Left()))
}

// list reads a list, each element by its own way. Room for it is made as elements are read: what the count says may not
// be there.
func list[T any](s source, one func(source) T) []T {
	var l []T
	for range s.count() {
		l = append(l, one(s))
	}
	return l
}

func (s source) record() api.Rec {
	r := api.Rec{Kind: s.number()}
	for _, f := range named(r.Kind) {
		s.get(&r, f)
	}
	return r
}

// The fields of a literal are read in the order in which they stand there.

func (s source) txn() api.Txn {
	return api.Txn{Coord: s.number(), Life: s.number(), Seq: s.number()}
}

func (s source) stamp() api.Stamp {
	return api.Stamp{Wall: s.number(), Logical: s.number(), Node: s.number()}
}

func (s source) write() api.Write {
	return api.Write{Key: s.text(), Value: s.value()}
}

func (s source) pair() api.Pair {
	return api.Pair(s.write())
}

func (s source) version() api.Version {
	return api.Version{Stamp: s.stamp(), Value: s.value()}
}

func (s source) history() api.History {
	return api.History{Key: s.text(), Versions: list(s, source.version)}
}

func (s source) pending() api.Pending {
	return api.Pending{Txn: s.txn(), Stamp: s.stamp(), Reads: list(s, source.text), Writes: list(s, source.write)}
}

func (s source) span() api.Range {
	return api.Range{ID: s.number(), Epoch: s.number(), Lo: s.float(), Hi: s.float()}
}

func (s source) state() api.State {
	return api.State{
		Range:     s.span(),
		Floor:     s.stamp(),
		Closed:    s.stamp(),
		Histories: list(s, source.history),
		Pending:   list(s, source.pending),
	}
}
