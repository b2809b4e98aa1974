package shard_test

import (
	"fmt"
	"reflect"
	"slices"
	"testing"

	"headrace/api"
	"headrace/disk"
)

// list is a list that somebody has, with the room behind its end.
type list struct {
	name string
	v    reflect.Value
}

// lists finds all lists within a value.
func lists(name string, v reflect.Value) []list {
	var l []list
	switch v.Kind() {
	case reflect.Slice:
		if v.Cap() > 0 {
			l = append(l, list{name, v})
		}
		for i := range v.Len() {
			l = append(l, lists(fmt.Sprint(name, "[", i, "]"), v.Index(i))...)
		}
	case reflect.Struct:
		for i := range v.NumField() {
			l = append(l, lists(name+"."+v.Type().Field(i).Name, v.Field(i))...)
		}
	}
	return l
}

// listsOf finds all lists within the values.
func listsOf(name string, all ...any) []list {
	var l []list
	for i, x := range all {
		l = append(l, lists(fmt.Sprint(name, " ", i), reflect.ValueOf(x))...)
	}
	return l
}

// apart holds lists to having no byte in common.
func apart(t *testing.T, l []list) {
	t.Helper()
	slices.SortFunc(l, func(a, b list) int { return int(a.v.Pointer()) - int(b.v.Pointer()) })
	for i := 1; i < len(l); i++ {
		end := l[i-1].v.Pointer() + uintptr(l[i-1].v.Cap())*l[i-1].v.Type().Elem().Size()
		if end > l[i].v.Pointer() {
			t.Fatalf("P16.7: %s and %s share memory", l[i-1].name, l[i].name)
		}
	}
}

// spoil writes over all lists, and the room behind them. The lists within a list are found from there, and come first.
func spoil(l []list) {
	for _, one := range slices.Backward(l) {
		all := one.v.Slice(0, one.v.Cap())
		for i := range all.Len() {
			all.Index(i).SetZero()
		}
	}
}

// roomy gives a copy of every list in a value room behind its end that is not zero.
func roomy[E any](x E) E {
	v := reflect.ValueOf(&x).Elem()
	widen(v)
	return x
}

func widen(v reflect.Value) {
	switch v.Kind() {
	case reflect.Slice:
		if v.Len() == 0 {
			return
		}
		wide := reflect.MakeSlice(v.Type(), v.Len()+2, v.Len()+2)
		reflect.Copy(wide, v)
		wide.Index(v.Len()).Set(v.Index(0))
		wide.Index(v.Len() + 1).Set(v.Index(0))
		v.Set(wide.Slice(0, v.Len()))
		for i := range v.Len() {
			widen(v.Index(i))
		}
	case reflect.Struct:
		for i := range v.NumField() {
			widen(v.Field(i))
		}
	}
}

// behind tells a value with the room behind all its lists.
func behind(x any) string {
	s := text(x)
	for _, one := range listsOf("", x) {
		s += text(one.v.Slice(0, one.v.Cap()).Interface())
	}
	return s
}

// full is a state with lists of all kinds.
func full() api.State {
	s := api.State{Range: whole, Floor: at(2, 0, 0), Histories: []api.History{once(highA, at(1, 0, 1), 1), once(lowB, at(1, 0, 2), 2)}}
	s.Pending = []api.Pending{{Txn: t1, Stamp: at(2, 0, 1), Reads: []string{highD, lowE}, Writes: puts(2, "c", "f")}}
	return s
}

// tell lists all that a node tells, by all calls that give lists.
func (r *rig) tell() []any {
	r.Helper()
	all := []any{r.n.State(), r.n.Info(), r.n.Hands()}
	add := func(l []api.Msg, e api.Errno) {
		if e != api.OK {
			r.Fatalf("P16: error %d", e)
		}
		all = append(all, l)
	}
	m := read(t3, at(1, 9, 21), "b", "e")
	add(r.n.Step(5, r.to(21, m)))
	m.Epoch = r.n.State().Range.Epoch
	add(r.n.Step(5, r.to(21, m)))
	add(r.n.Step(5, r.to(21, prepare(t1, at(5, 0, 1), nil, nil))))
	wrong := prepare(t2, at(5, 0, 1), nil, nil)
	wrong.Epoch = 99
	add(r.n.Step(5, r.to(21, wrong)))
	add(r.n.Step(5, r.to(21, abort(t3))))
	add(r.n.Step(5, r.to(21, pull(1, 8, at(5, 0, 1)))))
	// A Tick that makes no stamp.
	add(r.n.Tick(api.MaxWall + 1))
	return all
}

// P16.7: lists that are returned are new memory, each by itself.
func TestResultsAreNewMemory(t *testing.T) {
	r := born(t, roomy(full()))
	for _, child := range []int{0, 2, 3} {
		if child > 0 {
			r.splits("P16.6", 5, 1/float64(child), child, api.OK)
		}
		for range 2 {
			// What is told first lifts the clock, and no later one does.
			r.tell()
			first, second := r.tell(), r.tell()
			same(t, "P16.7: told twice", second, first)
			apart(t, append(listsOf("first", first...), listsOf("second", second...)...))
			spoil(listsOf("first", first...))
			same(t, "P16.7: told again", r.tell(), second)
			r.silent("P16.7", r.open)
			same(t, "P16.8: State", r.n.State(), second[0])
		}
	}
}

// P16.7: arguments are neither changed nor kept.
func TestArgumentsAreLeftAlone(t *testing.T) {
	check := func(what string, r *rig, arg any, call func()) {
		t.Helper()
		before := behind(arg)
		call()
		same(t, "P16.7: "+what+" is left as it was", behind(arg), before)
		given := listsOf("argument", arg)
		apart(t, append(given, listsOf("results", r.tell()...)...))
		told := text(r.tell())
		spoil(listsOf("argument", arg))
		same(t, "P16.7: "+what+" is not kept", text(r.tell()), told)
	}
	s := roomy(full())
	r := raw(t, disk.New(), 1)
	check("the state of Begin", r, s, func() { same(t, "P16.2", r.n.Begin(s), api.OK) })
	m := roomy(r.to(2, give(full())))
	r = raw(t, disk.New(), 1)
	check("an MHand", r, m, func() { r.n.Step(5, m) })
	check("an MHand again", r, roomy(m), func() { r.n.Step(5, m) })
	for _, m := range []api.Msg{
		prepare(t2, at(4, 0, 21), unseen("g", "i"), puts(2, "h", "j")), prepare(t3, at(4, 0, 21), unseen("c"), puts(2, "h", "j")),
		read(t2, at(4, 0, 21), "h", "i"), read(t2, at(1, 0, 21), "a", "b"), commit(t2, at(90, 0, 3)), took(2),
	} {
		m := roomy(r.to(21, m))
		check("a message", r, m, func() { r.n.Step(5, m) })
	}
	if l := r.n.State().Histories; len(l) != 4 || l[2].Key != "h" || l[3].Key != "j" {
		t.Errorf("P16.7: %+v", l)
	}
}
