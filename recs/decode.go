package recs

import (
	"headrace/api"
	"headrace/pack"
	"headrace/wire"
)

// unreadable is the panic by which a read is given up.
type unreadable struct{}

// Error returns a text.
func (unreadable) Error() string {
	return "recs: there is no record in these bytes"
}

// isGivenUp tells whether a read was given up, and lets every panic that is not this package's go on.
func isGivenUp(caught any) bool {
	switch caught.(type) {
	case nil:
		return false
	case unreadable:
		return true
	default:
		panic(caught)
	}
}

// Decode returns the record whose bytes are b.
func Decode(b []byte) (r api.Rec, e api.Errno) {
	defer func() {
		if isGivenUp(recover()) {
			r, e = api.Rec{}, api.ErrForm
		}
	}()
	if len(b) > api.MaxRecord {
		panic(unreadable{})
	}
	s := sourceOf(wire.NewReader(b))
	r = record(s)
	s.End()
	if May(r) != api.OK {
		panic(unreadable{})
	}
	return r, api.OK
}

// GetState reads a State, valid or not; it is zero if the Reader has a fault.
func GetState(r *wire.Reader) (s api.State) {
	defer func() {
		if isGivenUp(recover()) {
			s = api.State{}
		}
	}()
	return state(sourceOf(r))
}

func sourceOf(r *wire.Reader) pack.Source {
	return pack.Source{Reader: r, Sign: unreadable{}}
}

func record(s pack.Source) api.Rec {
	r := api.Rec{Kind: s.Number()}
	for _, f := range named(r.Kind) {
		get(s, &r, f)
	}
	return r
}

// The fields of a literal are read in the order in which they stand there.

func pair(s pack.Source) api.Pair {
	return api.Pair(s.Write())
}

func version(s pack.Source) api.Version {
	return api.Version{Stamp: s.Stamp(), Value: s.Value()}
}

func history(s pack.Source) api.History {
	return api.History{Key: s.Text(), Versions: pack.List(s, version)}
}

func pending(s pack.Source) api.Pending {
	return api.Pending{
		Txn:    s.Txn(),
		Stamp:  s.Stamp(),
		Reads:  pack.List(s, pack.Source.Text),
		Writes: pack.List(s, pack.Source.Write),
	}
}

func state(s pack.Source) api.State {
	return api.State{
		Range:     s.Range(),
		Floor:     s.Stamp(),
		Closed:    s.Stamp(),
		Histories: pack.List(s, history),
		Pending:   pack.List(s, pending),
	}
}
