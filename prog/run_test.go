package prog_test

import (
	"maps"
	"math"
	"math/rand"
	"slices"
	"strings"
	"testing"

	"headrace/api"
	"headrace/prog"
)

// P9.3

func seen(key string, v api.Value) api.Seen { return api.Seen{Key: key, Value: v} }
func num(x float64) api.Value               { return api.Value{Kind: 1, Num: x} }
func words(s string) api.Value              { return api.Value{Kind: 2, Text: s} }

// alike tells whether both values are the same bit by bit.
func alike(a, b api.Value) bool {
	return a.Kind == b.Kind && math.Float64bits(a.Num) == math.Float64bits(b.Num) && a.Text == b.Text
}

// alikeWrites tells whether both lists are the same bit by bit.
func alikeWrites(a, b []api.Write) bool {
	return slices.EqualFunc(a, b, func(v, w api.Write) bool { return v.Key == w.Key && alike(v.Value, w.Value) })
}

// holdRun holds Run(p, s) to an error, or to what is written.
func holdRun(t *testing.T, p []api.Op, s []api.Seen, e api.Errno, want ...api.Write) {
	t.Helper()
	l, got := prog.Run(p, s)
	if got != e || !alikeWrites(l, want) {
		t.Errorf("P9.3: Run(%s) over %v is %v, %d, not %v, %d", brief(p), s, l, got, want, e)
	}
}

// holdValue holds what a program leaves on the top of the stack, by writing it.
func holdValue(t *testing.T, want api.Value, p ...api.Op) {
	t.Helper()
	holdRun(t, with(p, put("a")), nil, api.OK, api.Write{Key: "a", Value: want})
}

func TestRunOfTheExamples(t *testing.T) {
	p := list(get("a"), number(1), plain(api.OAdd), put("a"))
	holdRun(t, p, []api.Seen{seen("a", num(2))}, api.OK, api.Write{Key: "a", Value: num(3)})
	holdRun(t, p, []api.Seen{seen("a", api.Value{})}, api.OK, api.Write{Key: "a", Value: num(1)})
	holdRun(t, p, []api.Seen{seen("a", words("x"))}, api.ErrType)
	holdRun(t, p, nil, api.ErrNone)
	holdRun(t, list(number(oneNaN), plain(api.ONeed)), nil, api.ErrNeed)
	holdRun(t, list(text("x"), plain(api.ONeed), drop("b")), nil, api.OK, api.Write{Key: "b"})
	holdRun(t, list(number(math.Inf(1)), number(math.Inf(-1)), plain(api.OAdd), put("a")), nil, api.OK, api.Write{Key: "a", Value: num(oneNaN)})
}

func TestArithmetic(t *testing.T) {
	inf := math.Inf(1)
	for _, c := range []struct {
		code       int
		a, b, want float64
	}{
		{5, 1, 2, 3}, {6, 1, 2, -1}, {7, 3, 2, 6}, {8, 1, 2, 0.5}, {9, 1, 2, 1}, {10, 1, 2, 2}, {9, 2, 1, 1}, {10, 2, 1, 2},
		{5, inf, -inf, oneNaN}, {6, inf, inf, oneNaN}, {7, 0, inf, oneNaN}, {8, 0, 0, oneNaN}, {8, inf, inf, oneNaN}, {8, minusZero, 0, oneNaN},
		{8, 1, 0, inf}, {8, 1, minusZero, -inf}, {8, -1, 0, -inf}, {8, 0, 1, 0}, {8, 0, -1, minusZero}, {8, 1, inf, 0}, {8, -1, inf, minusZero},
		{5, minusZero, minusZero, minusZero}, {5, 0, minusZero, 0}, {6, minusZero, 0, minusZero}, {6, 0, 0, 0}, {7, minusZero, 1, minusZero}, {7, -1, 0, minusZero},
		{9, 0, minusZero, minusZero}, {9, minusZero, 0, minusZero}, {10, 0, minusZero, 0}, {10, minusZero, 0, 0},
		{9, oneNaN, inf, inf}, {9, inf, oneNaN, inf}, {9, oneNaN, oneNaN, oneNaN}, {10, oneNaN, inf, oneNaN}, {10, inf, oneNaN, oneNaN}, {9, -inf, oneNaN, -inf},
		{5, oneNaN, 1, oneNaN}, {6, 1, oneNaN, oneNaN}, {7, oneNaN, 0, oneNaN}, {8, 0, oneNaN, oneNaN},
		{5, math.MaxFloat64, math.MaxFloat64, inf}, {6, 5e-324, 5e-324, 0}, {7, 5e-324, 0.5, 0}, {7, -5e-324, 0.5, minusZero}, {5, 1 << 53, 1, 1 << 53}, {5, 0.1, 0.2, 0.30000000000000004},
	} {
		holdValue(t, num(c.want), number(c.a), number(c.b), plain(c.code))
	}
}

func TestArithmeticOfNoneAndTexts(t *testing.T) {
	none := push(api.Value{})
	for _, c := range []struct {
		code                   int
		ofNones, ofOne, andOne float64 // None and None, None and 1, 1 and None
	}{
		{5, 0, 1, 1}, {6, 0, -1, 1}, {7, 0, 0, 0}, {8, oneNaN, 0, math.Inf(1)}, {9, 0, 0, 0}, {10, 0, 1, 1},
	} {
		holdValue(t, num(c.ofNones), none, none, plain(c.code))
		holdValue(t, num(c.ofOne), none, number(1), plain(c.code))
		holdValue(t, num(c.andOne), number(1), none, plain(c.code))
		for _, s := range []string{"", "x", "1p0", strings.Repeat("t", 64)} {
			for _, other := range []api.Op{none, number(1), number(oneNaN), text("x")} {
				holdRun(t, list(text(s), other, plain(c.code), put("a")), nil, api.ErrType)
				holdRun(t, list(other, text(s), plain(c.code), drop("a")), nil, api.ErrType)
			}
		}
	}
	// None is plus zero.
	holdValue(t, num(0), none, number(minusZero), plain(api.OAdd))
	holdValue(t, num(minusZero), none, number(minusZero), plain(api.OMin))
	holdValue(t, num(0), none, number(minusZero), plain(api.OMax))
	holdValue(t, num(math.Inf(-1)), number(-1), none, plain(api.ODiv))
}

func TestLessAndSame(t *testing.T) {
	// in the order of chapter 3, each before the next
	l := []api.Value{
		{}, num(math.Inf(-1)), num(-1), num(-5e-324), num(minusZero), num(0), num(5e-324), num(1), num(math.Inf(1)), num(oneNaN),
		words(""), words("\x00"), words("a"), words("a\x00"), words("aa"), words("b"), words("\xff"),
	}
	one := func(b bool) api.Value {
		if b {
			return num(1)
		}
		return num(0)
	}
	for i, a := range l {
		for j, b := range l {
			holdValue(t, one(i < j), push(a), push(b), plain(api.OLess))
			holdValue(t, one(i == j), push(a), push(b), plain(api.OSame))
		}
	}
}

func TestNeed(t *testing.T) {
	for _, v := range []api.Value{num(1), num(-1), num(5e-324), num(-5e-324), num(math.Inf(1)), num(math.Inf(-1)), words("x"), words("\x00"), words(" "), words("0")} {
		holdRun(t, list(push(v), plain(api.ONeed)), nil, api.OK)
		holdRun(t, list(get("k"), plain(api.ONeed), number(2), put("a")), []api.Seen{seen("k", v)}, api.OK, api.Write{Key: "a", Value: num(2)})
	}
	for _, v := range []api.Value{{}, num(0), num(minusZero), num(oneNaN), words("")} {
		holdRun(t, list(push(v), plain(api.ONeed)), nil, api.ErrNeed)
		holdRun(t, list(number(2), put("a"), get("k"), plain(api.ONeed)), []api.Seen{seen("k", v)}, api.ErrNeed)
	}
	// need takes what it needs.
	holdValue(t, num(3), number(3), number(1), plain(api.ONeed))
}

func TestDupAndSwap(t *testing.T) {
	for _, v := range goodValues() {
		p := list(push(v), plain(api.ODup), put("a"), put("b"))
		holdRun(t, p, nil, api.OK, api.Write{Key: "a", Value: v}, api.Write{Key: "b", Value: v})
		p = list(text("low"), push(v), number(7), plain(api.OSwap), put("a"), put("b"), put("c"))
		holdRun(t, p, nil, api.OK, api.Write{Key: "a", Value: v}, api.Write{Key: "b", Value: num(7)}, api.Write{Key: "c", Value: words("low")})
	}
}

func TestGetPutAndDrop(t *testing.T) {
	for _, v := range goodValues() {
		s := []api.Seen{seen("k", v)}
		wrote := api.Write{Key: "a", Value: v}
		holdRun(t, list(get("k"), put("a")), s, api.OK, wrote)
		holdRun(t, list(push(v), put("a")), nil, api.OK, wrote)
		// What the program wrote counts, and not what was seen; before it wrote, what was seen.
		holdRun(t, list(push(v), put("k"), get("k"), put("a")), []api.Seen{seen("k", words("old"))}, api.OK, wrote, api.Write{Key: "k", Value: v})
		holdRun(t, list(get("k"), drop("k"), put("a"), get("k"), put("k")), s, api.OK, wrote, api.Write{Key: "k"})
		holdRun(t, list(drop("k"), push(v), put("k"), get("k"), put("a")), s, api.OK, wrote, api.Write{Key: "k", Value: v})
		// The last one counts.
		holdRun(t, list(push(v), put("a"), drop("a")), nil, api.OK, api.Write{Key: "a"})
		holdRun(t, list(drop("a"), push(v), put("a")), nil, api.OK, wrote)
		holdRun(t, list(number(9), put("a"), push(v), put("a")), nil, api.OK, wrote)
	}
	p := list(number(1), put("b"), drop("\xff"), number(2), put("B"), number(3), put("a\x00"), drop("a"), number(4), put("b"))
	holdRun(t, p, nil, api.OK, api.Write{Key: "B", Value: num(2)}, api.Write{Key: "a"}, api.Write{Key: "a\x00", Value: num(3)}, api.Write{Key: "b", Value: num(4)}, api.Write{Key: "\xff"})
}

func TestRunOfNothingWritten(t *testing.T) {
	holdRun(t, nil, nil, api.OK)
	holdRun(t, list(number(1), text("x")), nil, api.OK)
	holdRun(t, list(get("a"), get("a")), []api.Seen{seen("a", words("x"))}, api.OK)
	holdRun(t, list(number(1), put("a"), number(0), plain(api.ONeed)), nil, api.ErrNeed)
}

func TestRunOverWhatWasNotSeen(t *testing.T) {
	bad := api.Value{Kind: 7}
	p := list(get("a"), get("b"), put("c"))
	c := api.Write{Key: "c", Value: num(2)}
	a, b := seen("a", num(1)), seen("b", num(2))
	holdRun(t, p, []api.Seen{a, b}, api.OK, c)
	holdRun(t, p, []api.Seen{b, a}, api.OK, c)
	for _, s := range [][]api.Seen{nil, {a}, {b}, {a, a}, {seen("", num(1)), seen("A", num(1)), seen("a\x00", num(1)), b}} {
		holdRun(t, p, s, api.ErrNone)
	}
	// The first one of a key counts, whatever the others are; what is not read counts for nothing.
	holdRun(t, p, []api.Seen{a, b, seen("b", num(3)), seen("a", bad)}, api.OK, c)
	holdRun(t, p, []api.Seen{seen("z", bad), seen("", bad), seen(strings.Repeat("k", 99), bad), a, b}, api.OK, c)
	holdRun(t, p, []api.Seen{a, seen("b", bad), b}, api.ErrForm)
	for _, v := range badValues() {
		holdRun(t, p, []api.Seen{a, seen("b", v)}, api.ErrForm)
		holdRun(t, p, []api.Seen{seen("a", v), b}, api.ErrForm)
		// A key that was not seen is told ahead of it, in any order.
		holdRun(t, p, []api.Seen{seen("a", v)}, api.ErrNone)
		holdRun(t, p, []api.Seen{seen("b", v)}, api.ErrNone)
	}
	// The stamp counts for nothing.
	holdRun(t, p, []api.Seen{{Key: "b", Value: num(2), Stamp: api.Stamp{Wall: -1}}, {Key: "a", Value: num(2), Stamp: api.Stamp{Wall: 9}}}, api.OK, c)
	// A key that only put or drop name need not be seen; one that is written ahead of get must be.
	holdRun(t, list(number(2), put("c"), get("c"), put("c")), nil, api.ErrNone)
	holdRun(t, list(number(2), put("c"), get("c"), put("c")), []api.Seen{seen("c", bad)}, api.ErrForm)
	holdRun(t, list(number(2), put("c"), drop("d")), []api.Seen{seen("c", bad), seen("d", bad)}, api.OK, c, api.Write{Key: "d"})
}

func TestOrderOfTheErrorsOfRun(t *testing.T) {
	bad := []api.Seen{seen("a", api.Value{Kind: 7})}
	wrong := list(text("x"), number(1), plain(api.OAdd))
	needy := list(number(0), plain(api.ONeed))
	// Check, ErrNone, ErrForm, and only then the steps
	holdRun(t, slices.Concat(wrong, needy, list(get("a"), plain(0))), bad, api.ErrKind)
	holdRun(t, slices.Concat(wrong, needy, list(get("a"), get("b"))), bad, api.ErrNone)
	holdRun(t, slices.Concat(wrong, needy, list(get("a"))), bad, api.ErrForm)
	holdRun(t, slices.Concat(wrong, needy), bad, api.ErrType)
	holdRun(t, slices.Concat(needy, wrong), bad, api.ErrNeed)
	holdRun(t, slices.Concat(list(number(1), put("a")), needy, wrong), bad, api.ErrNeed)
	holdRun(t, list(text(""), number(0), plain(api.OLess), plain(api.ONeed), text("x"), number(1), plain(api.OMax)), nil, api.ErrNeed)
}

// model is a run that keeps its stack as a list whose first element is the top.
type model struct {
	stack []api.Value
	keys  map[string]api.Value
	wrote map[string]api.Value
}

// arithmetic is a step that makes a number of two.
func arithmetic(word string, a, b float64) api.Value {
	before := func(x, y float64) bool {
		switch {
		case math.IsNaN(x):
			return false
		case math.IsNaN(y):
			return true
		case x == 0 && y == 0:
			return math.Signbit(x) && !math.Signbit(y)
		}
		return x < y
	}
	var x float64
	switch word {
	case "add":
		x = a + b
	case "sub":
		x = a - b
	case "mul":
		x = a * b
	case "div":
		x = a / b
	case "min":
		x = a
		if before(b, a) {
			x = b
		}
	case "max":
		x = a
		if before(a, b) {
			x = b
		}
	}
	if math.IsNaN(x) {
		x = oneNaN
	}
	return num(x)
}

// less tells whether a comes before b in the order of values.
func less(a, b api.Value) bool {
	switch {
	case a.Kind != b.Kind:
		return a.Kind < b.Kind
	case a.Kind == 2:
		return a.Text < b.Text
	}
	// The lesser of two numbers is the first one, and not the second one.
	return !alike(a, b) && alike(arithmetic("min", a.Num, b.Num), a)
}

// step executes a step.
func (m *model) step(op api.Op) api.Errno {
	k, _ := kindOf(op.Code)
	popped := slices.Clone(m.stack[:k.pops])
	m.stack = m.stack[k.pops:]
	onto := func(l ...api.Value) { m.stack = slices.Concat(l, m.stack) }
	flag := map[bool]api.Value{true: num(1), false: num(0)}
	switch k.word {
	case "get":
		onto(m.keys[op.Key])
	case "put":
		m.keys[op.Key], m.wrote[op.Key] = popped[0], popped[0]
	case "drop":
		m.keys[op.Key], m.wrote[op.Key] = api.Value{}, api.Value{}
	case "push":
		onto(op.Value)
	case "less":
		onto(flag[less(popped[1], popped[0])])
	case "same":
		onto(flag[alike(popped[0], popped[1])])
	case "need":
		v := popped[0]
		if v.Kind == 0 || v.Kind == 1 && !(v.Num < 0 || v.Num > 0) || v.Kind == 2 && len(v.Text) == 0 {
			return api.ErrNeed
		}
	case "dup":
		onto(popped[0], popped[0])
	case "swap":
		onto(popped[1], popped[0])
	default:
		if popped[0].Kind == 2 || popped[1].Kind == 2 {
			return api.ErrType
		}
		onto(arithmetic(k.word, popped[1].Num, popped[0].Num))
	}
	return api.OK
}

// wantedRun is P9.3 of a program that Check accepts.
func wantedRun(p []api.Op, s []api.Seen) ([]api.Write, api.Errno) {
	m := &model{keys: map[string]api.Value{}, wrote: map[string]api.Value{}}
	for i := len(s) - 1; i >= 0; i-- {
		m.keys[s[i].Key] = s[i].Value
	}
	keys := wantedKeys(p, 1)
	for _, key := range keys {
		if _, ok := m.keys[key]; !ok {
			return nil, api.ErrNone
		}
	}
	for _, key := range keys {
		if slices.ContainsFunc(badValues(), func(v api.Value) bool { return alike(v, m.keys[key]) }) {
			return nil, api.ErrForm
		}
	}
	for _, op := range p {
		if e := m.step(op); e != api.OK {
			return nil, e
		}
	}
	var l []api.Write
	for _, key := range slices.Sorted(maps.Keys(m.wrote)) {
		l = append(l, api.Write{Key: key, Value: m.wrote[key]})
	}
	return l, api.OK
}

// valid is a program that Check accepts, of up to n steps, on few keys.
func valid(r *rand.Rand, n int) []api.Op {
	var p []api.Op
	for range n {
		k := choose(r, kinds)
		op := api.Op{Code: k.code}
		if k.key {
			op.Key = choose(r, goodKeys()[:5])
		}
		if k.value {
			op.Value = choose(r, goodValues())
			if r.Intn(2) == 0 {
				op.Value = num(float64(r.Intn(5)))
			}
		}
		if wantedCheck(append(p, op)) == api.OK {
			p = append(p, op)
		}
	}
	return p
}

// looks is what was seen of few keys, most of them right.
func looks(r *rand.Rand) []api.Seen {
	var l []api.Seen
	for _, key := range goodKeys()[:5] {
		for r.Intn(30) > 0 {
			v := choose(r, goodValues())
			switch r.Intn(20) {
			case 0:
				v = choose(r, badValues())
			case 1, 2, 3, 4, 5, 6, 7, 8, 9, 10:
				v = num(float64(r.Intn(5)))
			}
			l = append(l, seen(key, v))
			if r.Intn(3) > 0 {
				break
			}
		}
	}
	r.Shuffle(len(l), func(i, j int) { l[i], l[j] = l[j], l[i] })
	return l
}

func TestRandomRunsToAModel(t *testing.T) {
	r := rand.New(rand.NewSource(93))
	counts := map[api.Errno]int{}
	for range 50000 {
		p, s := valid(r, r.Intn(24)), looks(r)
		want, e := wantedRun(p, s)
		counts[e]++
		holdRun(t, p, s, e, want...)
		if t.Failed() {
			t.FailNow()
		}
	}
	for _, e := range []api.Errno{api.OK, api.ErrNone, api.ErrForm, api.ErrType, api.ErrNeed} {
		if counts[e] < 500 {
			t.Errorf("only %d runs have the error %d", counts[e], e)
		}
	}
}

func TestRunAtItsLimits(t *testing.T) {
	p := each(13, func(key string) []api.Op { return list(get(key), plain(api.ODup), put(key)) })
	var s []api.Seen
	var want []api.Write
	for i := range 13 {
		key := string(rune('a' + i))
		s = append(s, seen(key, num(float64(i))))
		want = append(want, api.Write{Key: key, Value: num(float64(i))})
	}
	holdRun(t, p, s, api.OK, want...)
	// as many keys as may be, written in descending order
	var down []api.Op
	want = nil
	for i := range 16 {
		key := string(rune('p' - i))
		down = append(down, text(key), put(key))
		want = append(want, api.Write{Key: key, Value: words(key)})
	}
	slices.Reverse(want)
	holdRun(t, down, nil, api.OK, want...)
	// as many values as may be, added up
	holdRun(t, slices.Concat(high(16), slices.Repeat(list(plain(api.OAdd)), 15), list(put("a"))), nil, api.OK, api.Write{Key: "a", Value: num(16)})
	// a list of what was seen that is longer than any transaction makes
	many := slices.Repeat([]api.Seen{seen("z", num(1))}, 200000)
	holdRun(t, list(get("a"), put("b")), append(many, seen("a", num(5))), api.OK, api.Write{Key: "b", Value: num(5)})
}

// P9.7

func TestRunDependsOnlyOnReads(t *testing.T) {
	r := rand.New(rand.NewSource(97))
	for range 20000 {
		p, s := valid(r, r.Intn(24)), looks(r)
		l, e := prog.Run(p, s)
		names, reads := prog.Names(p), prog.Reads(p)
		for _, w := range l {
			if !slices.Contains(names, w.Key) {
				t.Fatalf("P9.7: %s writes %q", brief(p), w.Key)
			}
		}
		writes := slices.ContainsFunc(p, func(op api.Op) bool { return op.Code == 2 || op.Code == 3 })
		if e == api.OK && (len(l) == 0) == writes {
			t.Fatalf("P9.7: %s writes %v", brief(p), l)
		}
		// What is not read is changed, or left out; all stamps are.
		var other []api.Seen
		for _, x := range s {
			x.Stamp = api.Stamp{Wall: r.Int(), Logical: r.Int(), Node: r.Int()}
			if !slices.Contains(reads, x.Key) {
				x.Value = choose(r, slices.Concat(goodValues(), badValues()))
				if r.Intn(3) == 0 {
					continue
				}
			}
			other = append(other, x)
		}
		if m, f := prog.Run(p, other); f != e || !alikeWrites(l, m) {
			t.Fatalf("P9.7: %s is %v, %d over %v, and %v, %d over %v", brief(p), l, e, s, m, f, other)
		}
	}
}

// P0.4, P0.5

// spare fills a list's spare capacity.
func spare[T any](l []T, x T) {
	l = l[:cap(l)]
	for i := range l {
		l[i] = x
	}
}

func TestResultsAreNewMemory(t *testing.T) {
	const source = `get "b" get "a" add dup put "c" put "a" drop "b"`
	p, _ := prog.Parse(source)
	again, _ := prog.Parse(source)
	s := []api.Seen{seen("b", num(2)), seen("a", num(1))}
	want := []api.Write{{Key: "a", Value: num(3)}, {Key: "b"}, {Key: "c", Value: num(3)}}
	for range 3 {
		writes, _ := prog.Run(p, s)
		reads, names := prog.Reads(p), prog.Names(p)
		parsed, _ := prog.Parse(source)
		more, _ := prog.Run(p, s)
		spare(writes, api.Write{Key: "spoiled"})
		spare(reads, "spoiled")
		spare(parsed, api.Op{Code: 99})
		if !slices.Equal(names, []string{"a", "b", "c"}) || !alikeWrites(more, want) || !slices.Equal(prog.Reads(p), []string{"a", "b"}) {
			t.Errorf("P0.4: %q, %v", names, more)
		}
		spare(names, "spoiled")
		if prog.Print(p) != source || prog.Print(again) != source {
			t.Errorf("P0.4: %s, %s", prog.Print(p), prog.Print(again))
		}
	}
}

func TestArgumentsStayAsTheyAre(t *testing.T) {
	r := rand.New(rand.NewSource(94))
	for range 5000 {
		p, s := wild(r), looks(r)
		// Elements behind the end of the arguments must be neither read nor written.
		longP, longS := with(p, wild(r)...), slices.Concat(s, looks(r))
		keepP, keepS := slices.Clone(longP), slices.Clone(longS)
		want, e := prog.Run(p, s)
		got, f := prog.Run(longP[:len(p)], longS[:len(s)])
		if e != f || !alikeWrites(want, got) {
			t.Fatalf("P0.4: %v, %d and %v, %d", want, e, got, f)
		}
		prog.Check(longP[:len(p)])
		prog.Reads(longP[:len(p)])
		prog.Names(longP[:len(p)])
		prog.Print(longP[:len(p)])
		sameOp := func(a, b api.Op) bool { return a.Code == b.Code && a.Key == b.Key && alike(a.Value, b.Value) }
		sameSeen := func(a, b api.Seen) bool { return a.Key == b.Key && a.Stamp == b.Stamp && alike(a.Value, b.Value) }
		if !slices.EqualFunc(longP, keepP, sameOp) || !slices.EqualFunc(longS, keepS, sameSeen) {
			t.Fatalf("P0.4: an argument is changed: %s, %v", brief(longP), longS)
		}
	}
}
