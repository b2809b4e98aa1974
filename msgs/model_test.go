package msgs_test

import (
	"fmt"
	"math"
	"reflect"
	"slices"
	"strings"

	"headrace/api"
	"headrace/datum"
	"headrace/hlc"
	"headrace/mvcc"
	"headrace/place"
	"headrace/recs"
	"headrace/wire"
)

// text shows lists and structs, so that a list without elements is as nil, and minus zero and NaN are told from others.
func text(x any) string { return fmt.Sprintf("%+v", x) }

// fields are what the kinds name, as package api tells it.
var fields = map[int]string{
	1: "Txn Range Epoch Stamp Keys", 2: "Txn Range Code Stamp Seen Ranges", 3: "Txn Range Epoch Stamp Seen Writes Parts", 4: "Txn Range Code Stamp Ranges", 5: "Txn Range Commit Stamp", 6: "Txn Range", 7: "Txn Range",
	8: "Range N Max Stamp", 9: "Range N Recs", 10: "Range State", 11: "Range", 12: "Prev Stamp Txn Writes", 13: "", 14: "Stamp",
}

// isNothing tells whether x is a zero value: a list has no elements, a float is plus zero by its bits.
func isNothing(x reflect.Value) bool {
	switch x.Kind() {
	case reflect.Slice:
		return x.Len() == 0
	case reflect.Float64:
		return math.Float64bits(x.Float()) == 0
	case reflect.Struct:
		for i := range x.NumField() {
			if !isNothing(x.Field(i)) {
				return false
			}
		}
		return true
	default:
		return x.IsZero()
	}
}

// names tells whether the kind names the field.
func names(kind int, field string) bool {
	return strings.Contains(" Kind From To "+fields[kind]+" ", " "+field+" ")
}

// plainMay is P12.1, word by word.
func plainMay(m api.Msg) api.Errno {
	if _, is := fields[m.Kind]; !is {
		return api.ErrKind
	}
	if !plainNode(m.From) || !plainNode(m.To) {
		return api.ErrForm
	}
	x := reflect.ValueOf(m)
	for i := range x.NumField() {
		if !names(m.Kind, x.Type().Field(i).Name) && !isNothing(x.Field(i)) {
			return api.ErrForm
		}
	}
	if !plainRow(m) {
		return api.ErrForm
	}
	return api.OK
}

func plainNode(n int) bool {
	return slices.Contains([]int{1, 2, 3, 4, 5, 6, 7, 8, 9, 10, 11, 12, 21, 22, 31, 32}, n)
}

// plainRow is the row of the table.
func plainRow(m api.Msg) bool {
	isRange := m.Range >= 1 && m.Range <= 12
	isOne := mvcc.TxnMay(m.Txn) && isRange
	isStamp := hlc.May(m.Stamp)
	isCode := m.Code >= 0 && m.Code <= 25
	zero := api.Stamp{}
	switch m.Kind {
	case 1:
		return isOne && m.Epoch >= 0 && isStamp && len(m.Keys) >= 1 && plainKeys(m.Keys)
	case 2:
		if m.Code == api.OK {
			return isOne && isStamp && len(m.Seen) >= 1 && plainSeen(m.Seen) && len(m.Ranges) == 0
		}
		return isOne && isCode && isStamp && len(m.Seen) == 0 && plainRanges(m.Ranges)
	case 3:
		return isOne && m.Epoch >= 0 && isStamp && plainSeen(m.Seen) && plainWrites(m.Writes) && recs.Parts(m.Parts) && slices.Contains(m.Parts, m.Range)
	case 4:
		return isOne && isCode && isStamp && plainRanges(m.Ranges) && !(m.Code == api.OK && len(m.Ranges) > 0)
	case 5:
		return isOne && isStamp && !(m.Commit && m.Stamp == zero) && !(!m.Commit && m.Stamp != zero)
	case 6, 7:
		return isOne
	case 8:
		return isRange && m.N >= 1 && m.Max >= 0 && m.Max <= 8 && isStamp
	case 9:
		return isRange && m.N >= 1 && plainRecs(m.Recs)
	case 10:
		return isRange && recs.StateMay(m.State) && m.State.Range.ID == m.Range
	case 11:
		return isRange
	case 12:
		return hlc.May(m.Prev) && isStamp && hlc.Compare(m.Prev, m.Stamp) < 0 && mvcc.TxnMay(m.Txn) && len(m.Writes) >= 1 && plainWrites(m.Writes)
	case 13:
		return true
	default:
		return isStamp
	}
}

// plainKeys tells whether l has at most sixteen keys, in strictly ascending order.
func plainKeys(l []string) bool {
	for i, key := range l {
		if !datum.Key(key) || i > 0 && l[i-1] >= key {
			return false
		}
	}
	return len(l) <= 16
}

func plainSeen(l []api.Seen) bool {
	var keys []string
	for _, s := range l {
		keys = append(keys, s.Key)
		if !hlc.May(s.Stamp) || !datum.May(s.Value) || s.Stamp == (api.Stamp{}) && s.Value != (api.Value{}) {
			return false
		}
	}
	return plainKeys(keys)
}

func plainWrites(l []api.Write) bool {
	var keys []string
	for _, w := range l {
		keys = append(keys, w.Key)
		if !datum.May(w.Value) {
			return false
		}
	}
	return plainKeys(keys)
}

func plainRanges(l []api.Range) bool {
	for _, r := range l {
		if !place.May(r) {
			return false
		}
	}
	return len(l) <= 12
}

func plainRecs(l []api.Rec) bool {
	for _, r := range l {
		if _, e := recs.Encode(r); e != api.OK {
			return false
		}
	}
	return len(l) <= 8
}

// plainPut is P12.2: what a thing is written as goes by its type alone.
func plainPut(w *wire.Writer, x reflect.Value) {
	switch v := x.Interface().(type) {
	case api.Value:
		datum.Put(w, v)
		return
	case api.Rec:
		b, _ := recs.Encode(v)
		w.Text(string(b))
		return
	}
	switch x.Kind() {
	case reflect.Int:
		w.Int(int(x.Int()))
	case reflect.Bool:
		w.Flag(x.Bool())
	case reflect.Float64:
		w.Float(x.Float())
	case reflect.String:
		w.Text(x.String())
	case reflect.Slice:
		w.Int(x.Len())
		for i := range x.Len() {
			plainPut(w, x.Index(i))
		}
	default:
		for i := range x.NumField() {
			plainPut(w, x.Field(i))
		}
	}
}

// plainBytes is the message as bytes, valid or not.
func plainBytes(m api.Msg) []byte {
	w := wire.NewWriter()
	for _, n := range []int{m.Kind, m.From, m.To} {
		w.Int(n)
	}
	for _, name := range strings.Fields(fields[m.Kind]) {
		plainPut(w, reflect.ValueOf(m).FieldByName(name))
	}
	return w.Bytes()
}

// plainGet is P12.3: it reads into x, up to a fault.
func plainGet(r *wire.Reader, x reflect.Value) {
	switch v := x.Addr().Interface().(type) {
	case *api.Value:
		*v = datum.Get(r)
		return
	case *api.Rec:
		rec, e := recs.Decode([]byte(r.Text(1 << 18)))
		*v = rec
		r.Fail(e)
		return
	}
	switch x.Kind() {
	case reflect.Int:
		x.SetInt(int64(r.Int()))
	case reflect.Bool:
		x.SetBool(r.Flag())
	case reflect.Float64:
		x.SetFloat(r.Float())
	case reflect.String:
		x.SetString(r.Text(1 << 18))
	case reflect.Slice:
		for range r.Count(r.Left()) {
			if e, _ := r.Fault(); e != api.OK {
				return
			}
			one := reflect.New(x.Type().Elem()).Elem()
			plainGet(r, one)
			x.Set(reflect.Append(x, one))
		}
	default:
		for i := range x.NumField() {
			plainGet(r, x.Field(i))
		}
	}
}

// plainDecode is the message that is written as b, and whether there is one.
func plainDecode(b []byte) (api.Msg, bool) {
	r := wire.NewReader(b)
	m := api.Msg{Kind: r.Int(), From: r.Int(), To: r.Int()}
	for _, name := range strings.Fields(fields[m.Kind]) {
		plainGet(r, reflect.ValueOf(&m).Elem().FieldByName(name))
	}
	if e, _ := r.Fault(); e != api.OK || plainMay(m) != api.OK || len(b) > 1<<22 || string(plainBytes(m)) != string(b) {
		return api.Msg{}, false
	}
	return m, true
}
