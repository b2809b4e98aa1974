package prog_test

import (
	"math/rand"
	"regexp"
	"slices"
	"strings"
	"testing"

	"headrace/api"
	"headrace/datum"
	"headrace/prog"
)

// P9.4

// alikePrograms tells whether both programs are the same bit by bit.
func alikePrograms(p, q []api.Op) bool {
	return slices.EqualFunc(p, q, func(a, b api.Op) bool { return a.Code == b.Code && a.Key == b.Key && alike(a.Value, b.Value) })
}

func TestPrint(t *testing.T) {
	for _, c := range []struct {
		p    []api.Op
		want string
	}{
		{nil, ""}, {[]api.Op{}, ""},
		{list(get("a"), number(1), plain(api.OAdd), put("a")), `get "a" push 1p0 add put "a"`},
		{list(drop("a b"), get("\""), put("\\"), get("\x00\xff")), `drop "a b" get "\22" put "\5c" get "\00\ff"`},
		{list(push(api.Value{}), number(minusZero), number(oneNaN), text(""), text("a b"), number(-6)), `push none push -0 push nan push "" push "a b" push -3p1`},
		{list(plain(5), plain(6), plain(7), plain(8), plain(9), plain(10)), "add sub mul div min max"},
		{list(plain(11), plain(12), plain(13), plain(14), plain(15)), "less same need dup swap"},
		// what Check refuses is printed as well
		{list(get(""), put(""), drop("")), `get "" put "" drop ""`},
		{list(get(strings.Repeat("k", 30))), `get "` + strings.Repeat("k", 30) + `"`},
		{list(push(api.Value{Kind: 9}), number(otherNaN), text(strings.Repeat("t", 65))), "push ? push ? push ?"},
		{list(plain(0), plain(-1), plain(16)), "? ? ?"},
		{list(api.Op{Code: 16, Key: "a", Value: num(1)}, api.Op{Code: 5, Key: "a", Value: num(1)}, api.Op{Code: 1, Key: "a", Value: num(1)}, api.Op{Code: 4, Key: "a", Value: num(1)}), `? add get "a" push 1p0`},
	} {
		if got := prog.Print(c.p); got != c.want {
			t.Errorf("P9.4: Print is %s, not %s", got, c.want)
		}
	}
	for _, code := range wrongCodes() {
		if got := prog.Print(list(plain(code), plain(5))); got != "? add" {
			t.Errorf("P9.4: Print of the code %d is %s", code, got)
		}
	}
	if got := prog.Print(slices.Repeat(list(plain(5)), 5000)); got != "add"+strings.Repeat(" add", 4999) {
		t.Errorf("P9.4: Print of a long program has %d bytes", len(got))
	}
}

// holdParse holds Parse(s) to a program or an error.
func holdParse(t *testing.T, s string, e api.Errno, want ...api.Op) {
	t.Helper()
	p, got := prog.Parse(s)
	if got != e || !alikePrograms(p, want) {
		t.Errorf("P9.4: Parse(%.200q) is %s, %d, not %s, %d", s, brief(p), got, brief(want), e)
	}
}

func TestParseOfTheExamples(t *testing.T) {
	holdParse(t, `get "a" push 1p0 add put "a"`, api.OK, get("a"), number(1), plain(api.OAdd), put("a"))
	holdParse(t, "push", api.ErrShort)
	holdParse(t, "pish 1p0", api.ErrKind)
	holdParse(t, `put"a"`, api.ErrForm)
	holdParse(t, `get ""`, api.ErrForm)
}

func TestParseOfSpaces(t *testing.T) {
	for _, s := range []string{"", " ", "    "} {
		holdParse(t, s, api.OK)
	}
	for _, s := range []string{`drop "a" push 1p0`, ` drop "a" push 1p0`, `drop "a" push 1p0 `, `   drop   "a"  push     1p0  `} {
		holdParse(t, s, api.OK, drop("a"), number(1))
	}
	holdParse(t, `drop " a  b " push "  " push " "`, api.OK, drop(" a  b "), text("  "), text(" "))
	for _, s := range []string{"\t", "\n", "\x00", "\r", "\u00a0"} {
		holdParse(t, "push 1p0"+s, api.ErrForm)
		holdParse(t, "push 1p0 "+s, api.ErrKind)
		holdParse(t, s+"push 1p0", api.ErrKind)
		holdParse(t, "push"+s+"1p0", api.ErrKind)
		holdParse(t, `push "x"`+s, api.ErrForm)
		holdParse(t, `push "`+s+`"`, api.ErrForm)
	}
}

func TestParseOfEachWord(t *testing.T) {
	for _, k := range kinds {
		op := api.Op{Code: k.code}
		word := k.word
		before := "push 1p0 push 1p0 "
		if k.key {
			op.Key, word = "a", word+` "a"`
		}
		if k.value {
			op.Value, word = num(1), word+" 1p0"
		}
		holdParse(t, before+word, api.OK, number(1), number(1), op)
		for _, s := range []string{strings.ToUpper(k.word), k.word + "s", k.word[1:], k.word[:len(k.word)-1], "-" + k.word, k.word + "."} {
			holdParse(t, before+s+` "a"`, api.ErrKind)
			holdParse(t, s, api.ErrKind)
		}
		if k.key || k.value {
			holdParse(t, before+k.word, api.ErrShort)
			holdParse(t, before+k.word+"  ", api.ErrShort)
			holdParse(t, before+k.word+" "+k.word, api.ErrForm)
		} else {
			holdParse(t, before+k.word+` "a"`, api.ErrKind)
			holdParse(t, before+k.word+" 1p0", api.ErrKind)
		}
	}
	for _, s := range []string{"?", "none", "1p0", `"a"`, `"get"`, `""`, "0", "nan"} {
		holdParse(t, s, api.ErrKind)
		holdParse(t, s+` "a"`, api.ErrKind)
	}
}

func TestParseOfQuotes(t *testing.T) {
	for _, s := range []string{
		`"`, ` "`, `get "`, `get "a`, `get "a b`, `get "a" put "`, `get "a"x`, `get "a""b"`, `get ""a""`, `get """`, `get "a"x"`, `get"a"`, `ge"t`, `get a"b"`, `get a" "b`,
		`push 1p0"`, `push 1p0"x"`, `push """"`, `get "a" "b"c`, `"a" "`, `"a"b`,
		// whatever stands before it
		`pish "`, `get get"`, `push 2p0 "`, `get "" "`, strings.Repeat("push 0 ", 17) + `"`, `add x"y`,
	} {
		holdParse(t, s, api.ErrForm)
	}
	// A quote within a text is written in another way, and closes it otherwise.
	holdParse(t, `push "\22"`, api.OK, text("\""))
	holdParse(t, `push "\" push "\"`, api.ErrForm)
	holdParse(t, `push "\"  1p0`, api.ErrForm)
	holdParse(t, `push "\"" `, api.ErrForm)
}

func TestParseOfKeys(t *testing.T) {
	for _, word := range []string{"get", "drop"} {
		for _, s := range []string{`a`, `""`, `none`, `1p0`, `"\61"`, `"\0"`, `"\AA"`, `"é"`, `"` + strings.Repeat("k", 25) + `"`, `"` + strings.Repeat("k", 65) + `"`, `"` + strings.Repeat("k", 10000) + `"`} {
			holdParse(t, word+" "+s, api.ErrForm)
			// It is told ahead of all that comes behind it, and of what Check finds.
			holdParse(t, word+" "+s+" pish", api.ErrForm)
			holdParse(t, "need "+word+" "+s+" get", api.ErrForm)
			holdParse(t, strings.Repeat("need ", 41)+word+" "+s, api.ErrForm)
		}
		code := map[string]int{"get": 1, "drop": 3}[word]
		for _, key := range goodKeys() {
			holdParse(t, word+" "+datum.Quote(key), api.OK, api.Op{Code: code, Key: key})
		}
		// A key's bytes count, not those of its text.
		holdParse(t, word+` "`+strings.Repeat(`\00`, 24)+`"`, api.OK, api.Op{Code: code, Key: strings.Repeat("\x00", 24)})
		holdParse(t, word+` "`+strings.Repeat(`\00`, 25)+`"`, api.ErrForm)
	}
}

func TestParseOfValues(t *testing.T) {
	for _, v := range goodValues() {
		holdParse(t, "push "+datum.Print(v), api.OK, push(v))
	}
	for s, e := range map[string]api.Errno{
		"x": api.ErrForm, "?": api.ErrForm, "None": api.ErrForm, "01p0": api.ErrForm, "1p-0": api.ErrForm, "NaN": api.ErrForm, `"\61"`: api.ErrForm, `"\"`: api.ErrForm, "1": api.ErrForm, "+1p0": api.ErrForm,
		"2p0": api.ErrRange, "1p1024": api.ErrRange, "1p-1075": api.ErrRange, "9007199254740993p0": api.ErrRange, "-2p0": api.ErrRange,
		`"` + strings.Repeat("t", 65) + `"`: api.ErrLong, `"` + strings.Repeat("t", 64) + `\00"`: api.ErrLong, `"` + strings.Repeat("t", 65) + `\61"`: api.ErrForm,
	} {
		holdParse(t, "push "+s, e)
		holdParse(t, "push 1p0 push "+s+" pish", e)
	}
	holdParse(t, `push "`+strings.Repeat(`\00`, 64)+`"`, api.OK, text(strings.Repeat("\x00", 64)))
}

func TestParseTellsTheFirstError(t *testing.T) {
	for s, e := range map[string]api.Errno{
		"pish push 2p0 get a push": api.ErrKind, "push 2p0 pish get a push": api.ErrRange, "get a pish push 2p0 push": api.ErrForm, `push "` + strings.Repeat("t", 65) + `" pish`: api.ErrLong,
		"pish get": api.ErrKind, "get pish": api.ErrForm, "push pish": api.ErrForm,
		// Check is asked only about what can be read whole.
		"need pish": api.ErrKind, "need push": api.ErrShort, "need push 2p0": api.ErrRange, strings.Repeat("push 0 ", 17) + "pish": api.ErrKind, strings.Repeat("push 0 ", 17): api.ErrLong,
		strings.Repeat(`drop "a" `, 41): api.ErrMany, strings.Repeat(`drop "a" `, 41) + "pish": api.ErrKind, strings.Repeat(`drop "a" `, 41) + "get": api.ErrShort, strings.Repeat("push 0 ", 41): api.ErrMany, strings.Repeat("need ", 41): api.ErrMany,
		"need": api.ErrShort, "push 0 add": api.ErrShort, "add push 0": api.ErrShort, "dup": api.ErrShort, "push 0 swap": api.ErrShort, `put "a"`: api.ErrShort,
	} {
		holdParse(t, s, e)
	}
	var keys []string
	for i := range 17 {
		keys = append(keys, `drop "`+string(rune('a'+i))+`"`)
	}
	holdParse(t, strings.Join(keys, " "), api.ErrMany)
	if p, e := prog.Parse(strings.Join(keys[1:], " ")); e != api.OK || len(p) != 16 {
		t.Errorf("P9.4: 16 keys: %d, %d steps", e, len(p))
	}
}

var word = regexp.MustCompile(`^(?:"[^"]*"|[^" ][^" ]*)(?: |$)`)

// wantedParse is P9.4, with the words taken apart by a pattern.
func wantedParse(s string) ([]api.Op, api.Errno) {
	var l []string
	for {
		for len(s) > 0 && s[0] == 32 {
			s = s[1:]
		}
		if s == "" {
			break
		}
		w := word.FindString(s)
		if w == "" {
			return nil, api.ErrForm
		}
		l = append(l, strings.TrimSuffix(w, " "))
		s = s[len(w):]
	}
	var p []api.Op
	for i := 0; i < len(l); i++ {
		at := slices.IndexFunc(kinds, func(k kind) bool { return k.word == l[i] })
		if at < 0 {
			return nil, api.ErrKind
		}
		k := kinds[at]
		op := api.Op{Code: k.code}
		if k.key || k.value {
			i++
			if i == len(l) {
				return nil, api.ErrShort
			}
		}
		if k.key {
			key, e := datum.Unquote(l[i])
			if e != api.OK || len(key) < 1 || len(key) > 24 {
				return nil, api.ErrForm
			}
			op.Key = key
		}
		if k.value {
			v, e := datum.Parse(l[i])
			if e != api.OK {
				return nil, e
			}
			op.Value = v
		}
		p = append(p, op)
	}
	if e := wantedCheck(p); e != api.OK {
		return nil, e
	}
	return p, api.OK
}

func TestParseOfAllRowsOfPieces(t *testing.T) {
	pieces := []string{" ", `"`, `\`, "a", "get", "push", "need", "1p0", `"x" `}
	texts := 0
	var grow func(s string, left int)
	grow = func(s string, left int) {
		want, e := wantedParse(s)
		holdParse(t, s, e, want...)
		texts++
		if t.Failed() {
			t.FailNow()
		}
		if left > 0 {
			for _, piece := range pieces {
				grow(s+piece, left-1)
			}
		}
	}
	grow("", 5)
	grow("push ", 4)
	grow("push 1p0 ", 4)
	if texts < 80000 {
		t.Errorf("only %d texts", texts)
	}
}

func TestParseOfTextsWithAFault(t *testing.T) {
	r := rand.New(rand.NewSource(96))
	pieces := []string{" ", "  ", `"`, "\\", "\x00", "a", "0", "\t", "é", "get ", "push ", ` "a" `, " add ", " none ", " 2p0 ", " ? "}
	right := 0
	for range 60000 {
		s := prog.Print(valid(r, r.Intn(14)))
		at := r.Intn(len(s) + 1)
		switch r.Intn(4) {
		case 0:
			s = s[:at]
		case 1:
			s = s[:at] + choose(r, pieces) + s[at:]
		case 2:
			s = s[:at] + s[min(at+1, len(s)):]
		case 3:
			s = s[:at] + choose(r, pieces) + s[min(at+1, len(s)):]
		}
		want, e := wantedParse(s)
		holdParse(t, s, e, want...)
		if t.Failed() {
			t.FailNow()
		}
		if e == api.OK {
			right++
		}
	}
	if right < 1000 {
		t.Errorf("only %d texts are right", right)
	}
}

// P9.5

func TestEveryCallEnds(t *testing.T) {
	r := rand.New(rand.NewSource(95))
	strange := slices.Concat(goodValues(), badValues())
	keys := slices.Concat(goodKeys(), badKeys())
	for range 30000 {
		var p []api.Op
		for range r.Intn(50) {
			p = append(p, api.Op{Code: r.Intn(20) - 2, Key: choose(r, keys), Value: choose(r, strange)})
		}
		var s []api.Seen
		for range r.Intn(6) {
			s = append(s, seen(choose(r, keys), choose(r, strange)))
		}
		holdCheck(t, p, wantedCheck(p))
		holdKeys(t, p)
		prog.Run(p, s)
		prog.Parse(prog.Print(p))
		b := make([]byte, r.Intn(40))
		r.Read(b)
		want, e := wantedParse(string(b))
		holdParse(t, string(b), e, want...)
	}
	for _, s := range []string{strings.Repeat(" ", 1<<20), strings.Repeat(`drop "a" `, 1<<16), strings.Repeat("x", 1<<20), strings.Repeat(`"`, 1<<20), strings.Repeat(`"" `, 1<<18), "push " + strings.Repeat("9", 1<<20) + "p0"} {
		want, e := wantedParse(s)
		holdParse(t, s, e, want...)
	}
}

// P9.6

func TestRoundTrip(t *testing.T) {
	r := rand.New(rand.NewSource(6))
	for range 10000 {
		p := valid(r, r.Intn(60))
		holdParse(t, prog.Print(p), api.OK, p...)
	}
	for c := range 256 {
		s := string([]byte{byte(c)})
		for _, key := range []string{s, s + s, "a" + s, s + "a", strings.Repeat(s, 24)} {
			p := list(get(key), put(key), drop(key), text(key), text(strings.Repeat(s, 64)))
			holdParse(t, prog.Print(p), api.OK, p...)
		}
	}
	for _, v := range goodValues() {
		p := slices.Repeat(list(push(v)), 16)
		holdParse(t, prog.Print(p), api.OK, p...)
	}
}
