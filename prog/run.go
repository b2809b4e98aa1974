package prog

import (
	"math"
	"slices"
	"strconv"

	"headrace/api"
	"headrace/datum"
	"headrace/num"
)

// fault is the error that a run is given up with.
type fault struct{ code api.Errno }

// Error returns a text with the number of the error.
func (f fault) Error() string {
	return "prog: a run ends with error " + strconv.Itoa(int(f.code))
}

// machine is a run under way. Its program is valid, so that the stack is never too short.
type machine struct {
	stack         []api.Value
	seen, written map[string]api.Value
}

// Run executes the program over what was seen, and returns what it wrote.
func Run(p []api.Op, seen []api.Seen) (writes []api.Write, e api.Errno) {
	if e := Check(p); e != api.OK {
		return nil, e
	}
	defer func() {
		switch r := recover().(type) {
		case nil:
		case fault:
			e = r.code
		default:
			panic(r)
		}
	}()
	m := &machine{seen: valuesOf(Reads(p), seen), written: make(map[string]api.Value)}
	for _, op := range p {
		m.do(op)
	}
	// No step is ever passed over: all the keys that are named were written.
	for _, key := range Names(p) {
		writes = append(writes, api.Write{Key: key, Value: m.written[key]})
	}
	return writes, api.OK
}

// valuesOf returns the values of the keys, each from the first one that was seen of its key.
func valuesOf(keys []string, seen []api.Seen) map[string]api.Value {
	values := make(map[string]api.Value)
	for _, key := range keys {
		i := slices.IndexFunc(seen, func(s api.Seen) bool { return s.Key == key })
		if i < 0 {
			panic(fault{api.ErrNone})
		}
		values[key] = seen[i].Value
	}
	// Only now: a key that was not seen is told ahead of every value that is not valid.
	for _, key := range keys {
		if !datum.May(values[key]) {
			panic(fault{api.ErrForm})
		}
	}
	return values
}

// do executes a step.
func (m *machine) do(op api.Op) {
	switch op.Code {
	case api.OGet:
		m.push(m.get(op.Key))
	case api.OPut:
		m.written[op.Key] = m.pop()
	case api.ODrop:
		m.written[op.Key] = api.Value{}
	case api.OPush:
		m.push(op.Value)
	case api.OAdd:
		m.reckon(num.Add)
	case api.OSub:
		m.reckon(num.Sub)
	case api.OMul:
		m.reckon(num.Mul)
	case api.ODiv:
		m.reckon(num.Div)
	case api.OMin:
		m.reckon(num.Least)
	case api.OMax:
		m.reckon(num.Most)
	case api.OLess:
		m.test(m.compare() < 0)
	case api.OSame:
		m.test(m.compare() == 0)
	case api.ONeed:
		m.need()
	case api.ODup:
		v := m.pop()
		m.push(v)
		m.push(v)
	case api.OSwap:
		a, b := m.pair()
		m.push(b)
		m.push(a)
	}
}

// push puts a value on top of the stack.
func (m *machine) push(v api.Value) {
	m.stack = append(m.stack, v)
}

// pop takes the value on top of the stack.
func (m *machine) pop() api.Value {
	top := len(m.stack) - 1
	v := m.stack[top]
	m.stack = m.stack[:top]
	return v
}

// pair takes the two values on top of the stack; b lay above a.
func (m *machine) pair() (a, b api.Value) {
	b = m.pop()
	a = m.pop()
	return a, b
}

// get returns the value of a key: what the program wrote, or what was seen.
func (m *machine) get(key string) api.Value {
	if v, ok := m.written[key]; ok {
		return v
	}
	return m.seen[key]
}

// reckon replaces two values by the number that f makes of them.
func (m *machine) reckon(f func(a, b float64) float64) {
	a, b := m.pair()
	m.push(datum.Number(f(number(a), number(b))))
}

// number returns the number that v counts as; a text counts as none.
func number(v api.Value) float64 {
	if v.Kind == api.Text {
		panic(fault{api.ErrType})
	}
	return v.Num
}

// compare takes two values, and compares the lower one of them with the upper one.
func (m *machine) compare() int {
	a, b := m.pair()
	return datum.Compare(a, b)
}

// test pushes the number that stands for what was found out.
func (m *machine) test(found bool) {
	if found {
		m.push(datum.Number(1))
	} else {
		m.push(datum.Number(0))
	}
}

// need takes a value that must be true.
func (m *machine) need() {
	if !isTrue(m.pop()) {
		panic(fault{api.ErrNeed})
	}
}

// isTrue tells whether v counts as true.
func isTrue(v api.Value) bool {
	switch v.Kind {
	case api.Num:
		return v.Num != 0 && !math.IsNaN(v.Num)
	case api.Text:
		return v.Text != ""
	default:
		return false
	}
}
