package mvcc

import (
	"testing"

	"headrace/api"
)

// P10.4: no row of calls leads to ErrTwice of Resolve, so that the version is laid into the store by hand.
func TestResolveAtAStampThatIsThere(t *testing.T) {
	at, above := api.Stamp{Wall: 9, Node: 1}, api.Stamp{Wall: 12, Node: 1}
	x := api.Txn{Coord: 1, Life: 1, Seq: 1}
	s := New()
	p := api.Pending{Txn: x, Stamp: api.Stamp{Wall: 5, Node: 1}, Writes: []api.Write{{Key: "a"}, {Key: "b", Value: api.Value{Kind: api.Text, Text: "x"}}}}
	if e := s.Prepare(p, nil); e != api.OK {
		t.Fatalf("P10.3: Prepare is %d", e)
	}
	s.versions["b"] = []api.Version{{Stamp: at}, {Stamp: above}}
	for _, w := range []api.Stamp{at, above} {
		if e := s.Would(x, true, w); e != api.ErrTwice {
			t.Errorf("P10.4: Would at %v is %d", w, e)
		}
		if e := s.Resolve(x, true, w); e != api.ErrTwice {
			t.Errorf("P10.4: Resolve at %v is %d", w, e)
		}
	}
	if _, has := s.Has(x); !has || len(s.versions["a"]) != 0 || len(s.versions["b"]) != 2 {
		t.Errorf("P10.4: Resolve with an error leaves %v, %t", s.versions, has)
	}
	between := api.Stamp{Wall: 10}
	if e := s.Resolve(x, true, between); e != api.OK {
		t.Errorf("P10.4: Resolve at %v is %d", between, e)
	}
	l := s.versions["b"]
	if len(l) != 3 || l[0].Stamp != at || l[1] != (api.Version{Stamp: between, Value: p.Writes[1].Value}) || l[2].Stamp != above {
		t.Errorf("P10.4: the versions are %v", l)
	}
	if len(s.locks) != 0 {
		t.Errorf("P10.4: %v is locked by nothing", s.locks)
	}
}
