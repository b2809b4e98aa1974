package msgs

import (
	"headrace/api"
	"headrace/datum"
	"headrace/pack"
	"headrace/recs"
	"headrace/wire"
)

// maxMessage is how many bytes a message may have.
const maxMessage = 16 * api.MaxRecord

// Encode returns the bytes of m.
func Encode(m api.Msg) ([]byte, api.Errno) {
	if e := May(m); e != api.OK {
		return nil, e
	}
	w := wire.NewWriter()
	w.Int(m.Kind)
	w.Int(m.From)
	w.Int(m.To)
	names, _ := named(m.Kind)
	for _, f := range names {
		put(w, m, f)
	}
	b := w.Bytes()
	if len(b) > maxMessage {
		return nil, api.ErrLong
	}
	return b, api.OK
}

func putSeen(w *wire.Writer, s api.Seen) {
	w.Text(s.Key)
	datum.Put(w, s.Value)
	pack.PutStamp(w, s.Stamp)
}

// putRec writes r with the number of its bytes, or as no bytes if r is not valid.
func putRec(w *wire.Writer, r api.Rec) {
	b, _ := recs.Encode(r)
	w.Text(string(b))
}

// unreadable is the panic by which a read is given up.
type unreadable struct{}

// Error returns a text.
func (unreadable) Error() string {
	return "msgs: there is no message in these bytes"
}

// Decode returns the message whose bytes are b.
func Decode(b []byte) (m api.Msg, e api.Errno) {
	defer func() {
		switch caught := recover().(type) {
		case nil:
		case unreadable:
			m, e = api.Msg{}, api.ErrForm
		default:
			panic(caught)
		}
	}()
	if len(b) > maxMessage {
		panic(unreadable{})
	}
	s := pack.Source{Reader: wire.NewReader(b), Sign: unreadable{}}
	m = message(s)
	s.End()
	if May(m) != api.OK {
		panic(unreadable{})
	}
	return m, api.OK
}

// The fields of a literal are read in the order in which they stand there.

func message(s pack.Source) api.Msg {
	m := api.Msg{Kind: s.Number(), From: s.Number(), To: s.Number()}
	names, _ := named(m.Kind)
	for _, f := range names {
		get(s, &m, f)
	}
	return m
}

func seen(s pack.Source) api.Seen {
	return api.Seen{Key: s.Text(), Value: s.Value(), Stamp: s.Stamp()}
}

func rec(s pack.Source) api.Rec {
	r, e := recs.Decode([]byte(s.Text()))
	if e != api.OK {
		panic(unreadable{})
	}
	return r
}
