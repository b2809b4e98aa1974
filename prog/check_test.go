package prog_test

import (
	"math"
	"math/rand"
	"slices"
	"strings"
	"testing"

	"headrace/api"
	"headrace/datum"
	"headrace/prog"
)

// kind is what the chapter's table tells of a step.
type kind struct {
	code         int
	word         string
	key, value   bool // what it names
	pops, pushes int
}

// kinds is the chapter's table.
var kinds = []kind{
	{1, "get", true, false, 0, 1}, {2, "put", true, false, 1, 0}, {3, "drop", true, false, 0, 0}, {4, "push", false, true, 0, 1},
	{5, "add", false, false, 2, 1}, {6, "sub", false, false, 2, 1}, {7, "mul", false, false, 2, 1}, {8, "div", false, false, 2, 1},
	{9, "min", false, false, 2, 1}, {10, "max", false, false, 2, 1}, {11, "less", false, false, 2, 1}, {12, "same", false, false, 2, 1},
	{13, "need", false, false, 1, 0}, {14, "dup", false, false, 1, 2}, {15, "swap", false, false, 2, 2},
}

// kindOf returns the table's row of a code.
func kindOf(code int) (kind, bool) {
	i := slices.IndexFunc(kinds, func(k kind) bool { return k.code == code })
	if i < 0 {
		return kind{}, false
	}
	return kinds[i], true
}

func get(key string) api.Op     { return api.Op{Code: 1, Key: key} }
func put(key string) api.Op     { return api.Op{Code: 2, Key: key} }
func drop(key string) api.Op    { return api.Op{Code: 3, Key: key} }
func push(v api.Value) api.Op   { return api.Op{Code: 4, Value: v} }
func plain(code int) api.Op     { return api.Op{Code: code} }
func number(x float64) api.Op   { return push(api.Value{Kind: 1, Num: x}) }
func text(s string) api.Op      { return push(api.Value{Kind: 2, Text: s}) }
func list(p ...api.Op) []api.Op { return p }

var (
	minusZero = math.Copysign(0, -1)
	oneNaN    = math.Float64frombits(0x7FF8000000000000)
	otherNaN  = math.Float64frombits(0x7FF8000000000001)
)

// goodValues lists valid values; the first one is the zero Value.
func goodValues() []api.Value {
	return []api.Value{
		{}, {Kind: 1}, {Kind: 1, Num: minusZero}, {Kind: 1, Num: oneNaN}, {Kind: 1, Num: math.Inf(1)}, {Kind: 1, Num: math.Inf(-1)}, {Kind: 1, Num: 1},
		{Kind: 1, Num: -2.5}, {Kind: 1, Num: 5e-324}, {Kind: 1, Num: math.MaxFloat64}, {Kind: 2}, {Kind: 2, Text: "x"}, {Kind: 2, Text: strings.Repeat("t", 64)},
	}
}

// badValues lists values that are not valid.
func badValues() []api.Value {
	return []api.Value{
		{Num: 1}, {Num: minusZero}, {Num: oneNaN}, {Text: "x"}, {Kind: 1, Num: otherNaN}, {Kind: 1, Num: -oneNaN}, {Kind: 1, Text: "x"},
		{Kind: 2, Num: 1}, {Kind: 2, Num: minusZero}, {Kind: 2, Text: strings.Repeat("t", 65)}, {Kind: 3}, {Kind: -1}, {Kind: math.MaxInt}, {Kind: math.MinInt},
	}
}

// goodKeys lists keys.
func goodKeys() []string {
	return []string{"a", "\x00", "\"", " ", "none", "é", strings.Repeat("k", 23), strings.Repeat("k", 24)}
}

// badKeys lists strings that are not keys; the first one is empty.
func badKeys() []string {
	return []string{"", strings.Repeat("k", 25), strings.Repeat("k", 10000)}
}

// wrongCodes lists codes that are none of the table.
func wrongCodes() []int {
	return []int{0, -1, -2, -15, 16, 17, 99, 1 << 20, 1<<32 + 1, math.MinInt, math.MinInt + 1, math.MaxInt}
}

// isZero tells whether v is the zero Value bit by bit.
func isZero(v api.Value) bool {
	return v.Kind == 0 && math.Float64bits(v.Num) == 0 && v.Text == ""
}

// wantedCheck is P9.1, rule by rule.
func wantedCheck(p []api.Op) api.Errno {
	if len(p) > 40 {
		return api.ErrMany
	}
	depth := 0
	reads, writes := map[string]int{}, map[string]int{}
	for _, op := range p {
		k, ok := kindOf(op.Code)
		if !ok {
			return api.ErrKind
		}
		if k.key != (op.Key != "") || len(op.Key) > 24 || !k.value && !isZero(op.Value) || k.value && !datum.May(op.Value) {
			return api.ErrForm
		}
		if depth < k.pops {
			return api.ErrShort
		}
		if depth += k.pushes - k.pops; depth > 16 {
			return api.ErrLong
		}
		switch k.word {
		case "get":
			reads[op.Key] = 1
		case "put", "drop":
			writes[op.Key] = 1
		}
	}
	if len(reads) > 16 || len(writes) > 16 {
		return api.ErrMany
	}
	return api.OK
}

// holdCheck holds Check(p) to an error, and Run(p) to it too.
func holdCheck(t *testing.T, p []api.Op, want api.Errno) {
	t.Helper()
	if e := prog.Check(p); e != want {
		t.Errorf("P9.1: Check(%s) is %d, not %d", brief(p), e, want)
	}
	if want == api.OK {
		return
	}
	if l, e := prog.Run(p, nil); e != want || len(l) != 0 {
		t.Errorf("P9.3: Run(%s) is %v, %d, not %d", brief(p), l, e, want)
	}
}

// brief is the beginning of a program's text.
func brief(p []api.Op) string {
	s := prog.Print(p)
	return s[:min(len(s), 300)]
}

// high returns steps that bring the stack to a depth.
func high(depth int) []api.Op {
	return slices.Repeat(list(number(1)), depth)
}

// with returns p and more steps behind it, in new memory.
func with(p []api.Op, more ...api.Op) []api.Op {
	return slices.Concat(p, more)
}

func TestCheckOfTheExamples(t *testing.T) {
	holdCheck(t, list(put("a")), api.ErrShort)
	holdCheck(t, slices.Repeat(list(number(0)), 17), api.ErrLong)
	holdCheck(t, list(get("a"), number(1), plain(api.OAdd), put("a")), api.OK)
}

func TestCheckOfCodes(t *testing.T) {
	for _, code := range wrongCodes() {
		holdCheck(t, with(high(2), plain(code)), api.ErrKind)
		holdCheck(t, list(plain(code)), api.ErrKind)
		holdCheck(t, list(api.Op{Code: code, Key: "a", Value: api.Value{Kind: 7}}), api.ErrKind)
	}
	if api.OGet != 1 || api.OSwap != 15 {
		t.Error("the table's codes are not those of package api")
	}
}

func TestCheckOfKeysAndValues(t *testing.T) {
	keys := slices.Concat(badKeys(), goodKeys())
	values := slices.Concat(goodValues(), badValues())
	for _, k := range kinds {
		for i, key := range keys {
			for j, v := range values {
				form := i == 0 && j == 0
				switch {
				case k.key:
					form = i >= len(badKeys()) && j == 0
				case k.value:
					form = i == 0 && j < len(goodValues())
				}
				want := api.ErrForm
				if form {
					want = api.OK
				}
				holdCheck(t, with(high(2), api.Op{Code: k.code, Key: key, Value: v}), want)
			}
		}
	}
}

func TestCheckOfDepths(t *testing.T) {
	for _, k := range kinds {
		op := api.Op{Code: k.code}
		if k.key {
			op.Key = "a"
		}
		for depth := range 17 {
			want := api.OK
			switch {
			case depth < k.pops:
				want = api.ErrShort
			case depth-k.pops+k.pushes > 16:
				want = api.ErrLong
			}
			holdCheck(t, with(high(depth), op), want)
			// What a step takes is told by the next one: need empties the stack, or finds it short.
			left := depth - k.pops + k.pushes
			if want == api.OK {
				needs := slices.Repeat(list(plain(api.ONeed)), left)
				holdCheck(t, slices.Concat(high(depth), list(op), needs), api.OK)
				if depth+left < 39 {
					holdCheck(t, slices.Concat(high(depth), list(op), needs, list(plain(api.ONeed))), api.ErrShort)
				}
			}
		}
	}
}

func TestCheckOfManySteps(t *testing.T) {
	for _, n := range []int{0, 1, 39, 40} {
		holdCheck(t, slices.Repeat(list(drop("a")), n), api.OK)
	}
	for _, n := range []int{41, 42, 80, 100000} {
		holdCheck(t, slices.Repeat(list(drop("a")), n), api.ErrMany)
		// It is told ahead of whatever a step has.
		holdCheck(t, slices.Repeat(list(plain(0)), n), api.ErrMany)
		holdCheck(t, slices.Repeat(list(get("")), n), api.ErrMany)
		holdCheck(t, slices.Repeat(list(plain(api.ONeed)), n), api.ErrMany)
		holdCheck(t, slices.Repeat(list(number(1)), n), api.ErrMany)
	}
}

func TestCheckTellsTheFirstError(t *testing.T) {
	kindOp, form, short := plain(16), get(""), plain(api.OAdd)
	full := high(16)
	for _, c := range []struct {
		p []api.Op
		e api.Errno
	}{
		{list(kindOp, form, short), api.ErrKind}, {list(form, kindOp, short), api.ErrForm}, {list(short, kindOp, form), api.ErrShort},
		{with(full, number(1), kindOp, form), api.ErrLong}, {with(full, kindOp, number(1)), api.ErrKind}, {with(full, form, number(1)), api.ErrForm},
		// within a step: ErrKind, ErrForm, then ErrShort or ErrLong
		{list(api.Op{Code: api.OAdd, Key: "a"}), api.ErrForm}, {list(api.Op{Code: api.OPut, Key: ""}), api.ErrForm}, {list(api.Op{Code: api.ODup, Value: api.Value{Kind: 1}}), api.ErrForm},
		{with(full, api.Op{Code: api.OPush, Value: api.Value{Kind: 3}}), api.ErrForm}, {with(full, get("")), api.ErrForm}, {with(full, api.Op{Code: api.ODup, Key: "a"}), api.ErrForm},
		{with(full, plain(api.ODup)), api.ErrLong}, {with(full, get("a")), api.ErrLong}, {with(full, plain(api.OSwap)), api.OK},
	} {
		holdCheck(t, c.p, c.e)
	}
}

// each returns a step for each of n different keys.
func each(n int, step func(key string) []api.Op) []api.Op {
	var p []api.Op
	for i := range n {
		p = append(p, step(string(rune('a'+i)))...)
	}
	return p
}

func TestCheckOfManyKeys(t *testing.T) {
	read := func(key string) []api.Op { return list(get(key), plain(api.ONeed)) }
	write := func(key string) []api.Op { return list(number(1), put(key)) }
	gone := func(key string) []api.Op { return list(drop(key)) }
	for _, step := range []func(string) []api.Op{read, write, gone} {
		holdCheck(t, each(15, step), api.OK)
		holdCheck(t, each(16, step), api.OK)
		holdCheck(t, each(17, step), api.ErrMany)
		// A key that comes again counts once.
		holdCheck(t, with(each(16, step), step("a")...), api.OK)
		holdCheck(t, slices.Concat(step("p"), each(16, step), step("h")), api.OK)
		// It is told behind all that steps have.
		holdCheck(t, with(each(17, step), plain(0)), api.ErrKind)
		holdCheck(t, with(each(17, step), drop("")), api.ErrForm)
		holdCheck(t, with(each(17, step), plain(api.OSwap)), api.ErrShort)
	}
	holdCheck(t, with(each(17, gone), high(17)...), api.ErrLong)
	// put and drop count together, and apart from get.
	holdCheck(t, with(each(16, gone), number(1), put("p")), api.OK)
	holdCheck(t, with(each(16, gone), number(1), put("q")), api.ErrMany)
	holdCheck(t, with(each(15, gone), number(1), put("q"), number(1), put("r")), api.ErrMany)
	holdCheck(t, with(each(16, gone), get("q"), get("r"), get("s")), api.OK)
	holdCheck(t, slices.Concat(each(16, gone), each(12, read)), api.OK)
	holdCheck(t, slices.Concat(each(12, read), each(16, gone)), api.OK)
}

// choose is an element of l.
func choose[T any](r *rand.Rand, l []T) T {
	return l[r.Intn(len(l))]
}

// wild is a program of any steps, most of them right.
func wild(r *rand.Rand) []api.Op {
	var p []api.Op
	for range r.Intn(12) {
		k := choose(r, kinds)
		op := api.Op{Code: k.code}
		if k.key {
			op.Key = choose(r, goodKeys())
		}
		if k.value {
			op.Value = choose(r, goodValues())
		}
		switch r.Intn(60) {
		case 0:
			op.Code = choose(r, wrongCodes())
		case 1:
			op.Key = choose(r, badKeys())
		case 2:
			op.Key = choose(r, goodKeys())
		case 3:
			op.Value = choose(r, badValues())
		case 4:
			op.Value = choose(r, goodValues())
		}
		p = append(p, op)
	}
	return p
}

func TestCheckOfRandomPrograms(t *testing.T) {
	r := rand.New(rand.NewSource(91))
	counts := map[api.Errno]int{}
	for range 100000 {
		p := wild(r)
		if r.Intn(3) == 0 {
			p = with(high(r.Intn(18)), p...)
		}
		want := wantedCheck(p)
		counts[want]++
		holdCheck(t, p, want)
		if t.Failed() {
			t.FailNow()
		}
	}
	for _, e := range []api.Errno{api.OK, api.ErrKind, api.ErrForm, api.ErrShort, api.ErrLong} {
		if counts[e] < 100 {
			t.Errorf("only %d programs have the error %d", counts[e], e)
		}
	}
}

// P9.2

// wantedKeys is P9.2 for the codes.
func wantedKeys(p []api.Op, codes ...int) []string {
	var l []string
	for _, op := range p {
		if slices.Contains(codes, op.Code) && len(op.Key) >= 1 && len(op.Key) <= 24 && !slices.Contains(l, op.Key) {
			l = append(l, op.Key)
		}
	}
	slices.Sort(l)
	return l
}

// holdKeys holds Reads and Names of p to P9.2.
func holdKeys(t *testing.T, p []api.Op) {
	t.Helper()
	if got, want := prog.Reads(p), wantedKeys(p, 1); !slices.Equal(got, want) {
		t.Errorf("P9.2: Reads(%s) is %q, not %q", brief(p), got, want)
	}
	if got, want := prog.Names(p), wantedKeys(p, 2, 3); !slices.Equal(got, want) {
		t.Errorf("P9.2: Names(%s) is %q, not %q", brief(p), got, want)
	}
}

func TestReadsAndNames(t *testing.T) {
	p := list(get("c"), put("b"), get("a"), get("c"), drop("a"), put("a"), drop("\xff"), get("B"), get("\x00"))
	if got := prog.Reads(p); !slices.Equal(got, []string{"\x00", "B", "a", "c"}) {
		t.Errorf("P9.2: Reads is %q", got)
	}
	if got := prog.Names(p); !slices.Equal(got, []string{"a", "b", "\xff"}) {
		t.Errorf("P9.2: Names is %q", got)
	}
	for _, p := range [][]api.Op{nil, {}, list(number(1), plain(api.OAdd)), list(get(""), put(""), drop("")), list(get(strings.Repeat("k", 25)), put(strings.Repeat("k", 25)))} {
		if len(prog.Reads(p)) != 0 || len(prog.Names(p)) != 0 {
			t.Errorf("P9.2: of %s: %q, %q", brief(p), prog.Reads(p), prog.Names(p))
		}
	}
	// A Key of a step that names none counts for nothing.
	for code := -20; code < 40; code++ {
		holdKeys(t, list(api.Op{Code: code, Key: "a"}, api.Op{Code: code, Key: "b", Value: api.Value{Kind: 9}}))
	}
}

func TestReadsAndNamesOfRandomPrograms(t *testing.T) {
	r := rand.New(rand.NewSource(92))
	for range 20000 {
		holdKeys(t, wild(r))
	}
	var long []api.Op
	for range 3000 {
		long = append(long, wild(r)...)
	}
	holdKeys(t, long)
}

func TestKeysOfMoreThanAllowed(t *testing.T) {
	p := each(300, func(key string) []api.Op { return list(get(key), drop(key)) })
	if len(prog.Reads(p)) != 300 || len(prog.Names(p)) != 300 {
		t.Errorf("P9.2: %d and %d keys", len(prog.Reads(p)), len(prog.Names(p)))
	}
}
