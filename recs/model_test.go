package recs_test

import (
	"fmt"
	"math"
	"reflect"
	"strings"

	"headrace/api"
	"headrace/datum"
	"headrace/place"
	"headrace/wire"
)

// text shows lists and structs, so that a list without elements is as nil, and minus zero and NaN are told from others.
func text(x any) string { return fmt.Sprintf("%+v", x) }

// fields are what the kinds name, as package api tells it.
var fields = map[int]string{
	1: "State", 2: "N", 3: "Txn Stamp Reads Writes Parts", 4: "Txn Commit Stamp", 5: "Stamp", 6: "Point N Stamp",
	7: "N", 8: "N", 9: "Txn Stamp Parts", 10: "Txn", 11: "Prev Stamp Txn Writes", 12: "Stamp Pairs",
}

// isNothing tells whether x is a zero value, by the chapter's words.
func isNothing(x reflect.Value) bool {
	switch x.Kind() {
	case reflect.Slice:
		return x.Len() == 0
	case reflect.Float64:
		return math.Float64bits(x.Float()) == 0
	case reflect.Struct:
		for i := range x.NumField() {
			if !isNothing(x.Field(i)) {
				return false
			}
		}
		return true
	default:
		return x.IsZero()
	}
}

// plainMay is P11.1, word by word.
func plainMay(r api.Rec) api.Errno {
	names, is := fields[r.Kind]
	if !is {
		return api.ErrKind
	}
	x := reflect.ValueOf(r)
	for i := range x.NumField() {
		name := x.Type().Field(i).Name
		if name != "Kind" && !strings.Contains(" "+names+" ", " "+name+" ") && !isNothing(x.Field(i)) {
			return api.ErrForm
		}
	}
	if !plainRow(r) {
		return api.ErrForm
	}
	return api.OK
}

// plainRow is the row of the table.
func plainRow(r api.Rec) bool {
	zero := api.Stamp{}
	switch r.Kind {
	case 1:
		return plainState(r.State)
	case 2:
		return 0 <= r.N && r.N <= 1<<48
	case 3:
		return plainPending(api.Pending{Txn: r.Txn, Stamp: r.Stamp, Reads: r.Reads, Writes: r.Writes}) && plainParts(r.Parts)
	case 4:
		return plainTxn(r.Txn) && plainStamp(r.Stamp) && !(r.Commit && r.Stamp == zero) && !(!r.Commit && r.Stamp != zero)
	case 5:
		return plainStamp(r.Stamp)
	case 6:
		return r.Point > 0 && r.Point < 1 && r.N >= 1 && r.N <= 12 && plainStamp(r.Stamp)
	case 7:
		return r.N >= 1 && r.N <= 12
	case 8:
		return r.N >= 1
	case 9:
		return plainTxn(r.Txn) && plainStamp(r.Stamp) && r.Stamp != zero && plainParts(r.Parts)
	case 10:
		return plainTxn(r.Txn)
	case 11:
		return plainStamp(r.Prev) && plainStamp(r.Stamp) && isBefore(r.Prev, r.Stamp) && plainTxn(r.Txn) && len(r.Writes) >= 1 && plainWrites(r.Writes)
	default:
		return plainStamp(r.Stamp) && plainPairs(r.Pairs)
	}
}

func plainTxn(t api.Txn) bool {
	return (t.Coord == 1 || t.Coord == 2) && t.Life >= 1 && t.Seq >= 1
}

func plainStamp(s api.Stamp) bool {
	return s.Wall >= 0 && s.Wall <= 1<<48 && s.Logical >= 0 && s.Logical <= 65535 && s.Node >= 0 && s.Node <= 63
}

// isBefore tells whether a is less than b.
func isBefore(a, b api.Stamp) bool {
	if a.Wall != b.Wall {
		return a.Wall < b.Wall
	}
	if a.Logical != b.Logical {
		return a.Logical < b.Logical
	}
	return a.Node < b.Node
}

// plainKeys tells whether l has at most most keys, in strictly ascending order.
func plainKeys(l []string, most int) bool {
	for i, key := range l {
		if len(key) < 1 || len(key) > 24 || i > 0 && l[i-1] >= key {
			return false
		}
	}
	return len(l) <= most
}

func plainWrites(l []api.Write) bool {
	var keys []string
	for _, w := range l {
		keys = append(keys, w.Key)
		if !datum.May(w.Value) {
			return false
		}
	}
	return plainKeys(keys, 16)
}

func plainPairs(l []api.Pair) bool {
	var keys []string
	for _, p := range l {
		keys = append(keys, p.Key)
		if !datum.May(p.Value) || p.Value.Kind == 0 {
			return false
		}
	}
	return plainKeys(keys, len(l))
}

func plainPending(p api.Pending) bool {
	return plainTxn(p.Txn) && plainStamp(p.Stamp) && p.Stamp != (api.Stamp{}) && plainKeys(p.Reads, 16) && plainWrites(p.Writes)
}

func plainParts(l []int) bool {
	for i, n := range l {
		if n < 1 || n > 12 || i > 0 && l[i-1] >= n {
			return false
		}
	}
	return len(l) >= 1
}

// plainState is StateMay, with the words of P10.1 for Load.
func plainState(s api.State) bool {
	r := s.Range
	if r.ID < 1 || r.ID > 12 || r.Epoch < 0 || math.Signbit(r.Lo) || math.Signbit(r.Hi) || !(r.Lo >= 0 && r.Lo < r.Hi && r.Hi <= 1) {
		return false
	}
	if !plainStamp(s.Floor) || !plainStamp(s.Closed) {
		return false
	}
	isIn := func(key string) bool { return place.Of(key) >= r.Lo && place.Of(key) < r.Hi }
	newest := map[string]api.Stamp{}
	var keys []string
	for _, h := range s.Histories {
		keys = append(keys, h.Key)
		for _, v := range h.Versions {
			if !plainStamp(v.Stamp) || !isBefore(newest[h.Key], v.Stamp) || !datum.May(v.Value) {
				return false
			}
			newest[h.Key] = v.Stamp
		}
		if len(h.Versions) == 0 || !isIn(h.Key) {
			return false
		}
	}
	if !plainKeys(keys, len(keys)) {
		return false
	}
	txns, readers, writers := map[api.Txn]int{}, map[string]int{}, map[string]int{}
	for _, p := range s.Pending {
		if !plainPending(p) || txns[p.Txn] > 0 {
			return false
		}
		txns[p.Txn]++
		for _, key := range p.Reads {
			if !isIn(key) || writers[key] > 0 {
				return false
			}
		}
		for _, w := range p.Writes {
			if !isIn(w.Key) || writers[w.Key] > 0 || readers[w.Key] > 0 || !isBefore(newest[w.Key], p.Stamp) {
				return false
			}
			writers[w.Key]++
		}
		for _, key := range p.Reads {
			readers[key]++
		}
	}
	return true
}

// plainPut is P11.2: what a thing is written as goes by its type alone.
func plainPut(w *wire.Writer, x reflect.Value) {
	if v, is := x.Interface().(api.Value); is {
		datum.Put(w, v)
		return
	}
	switch x.Kind() {
	case reflect.Int:
		w.Int(int(x.Int()))
	case reflect.Bool:
		w.Flag(x.Bool())
	case reflect.Float64:
		w.Float(x.Float())
	case reflect.String:
		w.Text(x.String())
	case reflect.Slice:
		w.Int(x.Len())
		for i := range x.Len() {
			plainPut(w, x.Index(i))
		}
	default:
		for i := range x.NumField() {
			plainPut(w, x.Field(i))
		}
	}
}

// plainBytes is the record as bytes, valid or not.
func plainBytes(r api.Rec) []byte {
	w := wire.NewWriter()
	w.Int(r.Kind)
	for _, name := range strings.Fields(fields[r.Kind]) {
		plainPut(w, reflect.ValueOf(r).FieldByName(name))
	}
	return w.Bytes()
}

// plainGet is P11.3: it reads into x, up to a fault.
func plainGet(r *wire.Reader, x reflect.Value) {
	if v, is := x.Addr().Interface().(*api.Value); is {
		*v = datum.Get(r)
		return
	}
	switch x.Kind() {
	case reflect.Int:
		x.SetInt(int64(r.Int()))
	case reflect.Bool:
		x.SetBool(r.Flag())
	case reflect.Float64:
		x.SetFloat(r.Float())
	case reflect.String:
		x.SetString(r.Text(1 << 18))
	case reflect.Slice:
		for range r.Count(r.Left()) {
			if e, _ := r.Fault(); e != api.OK {
				return
			}
			one := reflect.New(x.Type().Elem()).Elem()
			plainGet(r, one)
			x.Set(reflect.Append(x, one))
		}
	default:
		for i := range x.NumField() {
			plainGet(r, x.Field(i))
		}
	}
}

// plainGetState is a State, or the zero one if there is a fault.
func plainGetState(r *wire.Reader) api.State {
	var s api.State
	plainGet(r, reflect.ValueOf(&s).Elem())
	if e, _ := r.Fault(); e != api.OK {
		return api.State{}
	}
	return s
}

// plainDecode is the record that is written as b, and whether there is one.
func plainDecode(b []byte) (api.Rec, bool) {
	r := wire.NewReader(b)
	rec := api.Rec{Kind: r.Int()}
	for _, name := range strings.Fields(fields[rec.Kind]) {
		plainGet(r, reflect.ValueOf(&rec).Elem().FieldByName(name))
	}
	if e, _ := r.Fault(); e != api.OK || plainMay(rec) != api.OK || len(b) > 1<<18 || string(plainBytes(rec)) != string(b) {
		return api.Rec{}, false
	}
	return rec, true
}
