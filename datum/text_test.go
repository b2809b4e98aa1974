package datum_test

import (
	"bytes"
	"fmt"
	"math"
	"regexp"
	"strconv"
	"strings"
	"testing"

	"headrace/api"
	"headrace/datum"
	"headrace/num"
)

// quoted works out the Quote of s, by the words of P3.5.
func quoted(s string) string {
	var b strings.Builder
	for i := range len(s) {
		switch c := s[i]; {
		case c == '"', c == '\\', c < 32, c > 126:
			fmt.Fprintf(&b, "\\%02x", c)
		default:
			b.WriteByte(c)
		}
	}
	return `"` + b.String() + `"`
}

// loose is what looks like a quoted text, even if a byte in it need not be an escape.
var loose = regexp.MustCompile(`^"(?:[^"\\]|\\[0-9a-f]{2})*"$`)

// unquoted works out the Unquote of s: the one string that can be meant, if it is quoted so.
func unquoted(s string) (string, api.Errno) {
	// Bytes above 126 are no letters to the expression.
	if strings.ContainsFunc(s, func(c rune) bool { return c > 126 }) || !loose.MatchString(s) {
		return "", api.ErrForm
	}
	var b []byte
	for inner := s[1 : len(s)-1]; inner != ""; {
		size := 1
		if inner[0] == '\\' {
			size = 3
			c, _ := strconv.ParseUint(inner[1:3], 16, 8)
			b = append(b, byte(c))
		} else {
			b = append(b, inner[0])
		}
		inner = inner[size:]
	}
	if quoted(string(b)) != s {
		return "", api.ErrForm
	}
	return string(b), api.OK
}

// strangeTexts lists texts of any length with bytes of every kind.
func strangeTexts() []string {
	l := texts()
	for c := range 1 << 8 {
		l = append(l, string([]byte{byte(c)}), strings.Repeat(string([]byte{byte(c), 'a'}), 100))
	}
	for c := range 1 << 16 {
		l = append(l, string([]byte{byte(c), byte(c >> 8)}))
	}
	return l
}

func TestQuote(t *testing.T) {
	for _, s := range strangeTexts() {
		if got, want := datum.Quote(s), quoted(s); got != want {
			t.Fatalf("P3.5: Quote(%q) is %q, not %q", s, got, want)
		}
	}
	for s, want := range map[string]string{
		"":         `""`,
		"a\"\n":    `"a\22\0a"`,
		"\\":       `"\5c"`,
		" ~":       `" ~"`,
		"\x1f\x7f": `"\1f\7f"`,
		"\x00\xff": `"\00\ff"`,
		"\x80\xab": `"\80\ab"`,
		"é":        `"\c3\a9"`,
		"!#[]":     `"!#[]"`,
	} {
		if got := datum.Quote(s); got != want {
			t.Errorf("P3.5: Quote(%q) is %q, not %q", s, got, want)
		}
	}
}

func TestQuoteAndUnquote(t *testing.T) {
	for _, s := range append(strangeTexts(), strings.Repeat("\x01\\\"", 1<<14)) {
		if got, e := datum.Unquote(datum.Quote(s)); got != s || e != api.OK {
			t.Fatalf("P3.5: Unquote of Quote of %q is %q, %d", s, got, e)
		}
	}
}

func checkUnquote(t *testing.T, s string) {
	t.Helper()
	want, wantError := unquoted(s)
	if got, e := datum.Unquote(s); got != want || e != wantError {
		t.Fatalf("P3.5: Unquote(%q) is %q, %d, not %q, %d", s, got, e, want, wantError)
	}
}

func TestUnquoteOfShortStrings(t *testing.T) {
	letters := "\"\\a0226Fg~ \n\x7f\xff"
	var grow func(s string, most int)
	grow = func(s string, most int) {
		checkUnquote(t, s)
		checkUnquote(t, `"`+s+`"`)
		if most > 0 {
			for i := range len(letters) {
				grow(s+letters[i:i+1], most-1)
			}
		}
	}
	grow("", 4)
}

func TestUnquoteOfEveryEscape(t *testing.T) {
	for i := range 1 << 16 {
		checkUnquote(t, "\"a\\"+string([]byte{byte(i), byte(i >> 8)})+"b\"")
	}
	for i := range 1 << 8 {
		escape := fmt.Sprintf("\"\\%02x\"", i)
		s, e := datum.Unquote(escape)
		if plain := i >= 32 && i <= 126 && i != '"' && i != '\\'; plain {
			if s != "" || e != api.ErrForm {
				t.Errorf("P3.5: Unquote(%q) is %q, %d: the byte stands for itself", escape, s, e)
			}
		} else if s != string([]byte{byte(i)}) || e != api.OK {
			t.Errorf("P3.5: Unquote(%q) is %q, %d", escape, s, e)
		}
		checkUnquote(t, string([]byte{'"', byte(i), '"'}))
		checkUnquote(t, string([]byte{byte(i), '"', '"'}))
		checkUnquote(t, string([]byte{'"', '"', byte(i)}))
	}
}

// unformed lists strings that begin with a quote, and are the Quote of none.
func unformed() []string {
	long := strings.Repeat("x", api.MaxText+1)
	return []string{
		`"`, `"a`, `""a`, `"a"b"`, `"a" `, `"a""`, `"""`, `""""`, `"\"`, `"\\"`, `"\0"`, `"\00`, `"\61"`, `"\20"`, `"\7e"`, `"\30"`, `"\0A"`,
		`"\0G"`, `"\FF"`, `"\fF"`, `"\x0a"`, `"\n"`, `"\ 0"`, `"\-1"`, `"\+1"`, `"\0`, `"\`, `"\a"`, "\"\n\"", "\"\x00\"", "\"\x7f\"", "\"\xff\"", "\"é\"", "\"a\"\n",
		`"` + long, `"` + long + `\`, `"` + long + `\61"`, `"` + long + `"` + `"`, `"` + long + "\n\"",
	}
}

func TestUnquoteOfWhatIsNoQuote(t *testing.T) {
	for _, s := range append(unformed(), "", "a", "none", "a\"", " \"a\"", "'a'", "\\22a\\22", "“a”") {
		if got, e := datum.Unquote(s); got != "" || e != api.ErrForm {
			t.Errorf("P3.5: Unquote(%q) is %q, %d, not ErrForm", s, got, e)
		}
	}
}

func TestPrint(t *testing.T) {
	for _, v := range ascending() {
		want := "none"
		switch v.Kind {
		case api.Num:
			want = num.Print(v.Num)
		case api.Text:
			want = quoted(v.Text)
		}
		if got := datum.Print(v); got != want {
			t.Errorf("P3.5: Print(%s) is %q, not %q", show(v), got, want)
		}
	}
	for _, v := range invalid() {
		if got := datum.Print(v); got != "?" {
			t.Errorf("P3.5: Print(%s) is %q, not ?", show(v), got)
		}
	}
}

// printed pairs texts with the values that they are the text forms of.
func printed() map[string]api.Value {
	escapes := strings.Repeat(`\00`, api.MaxText)
	return map[string]api.Value{
		"none":              {},
		"3p0":               datum.Number(3),
		"0":                 datum.Number(0),
		"-0":                datum.Number(math.Copysign(0, -1)),
		"nan":               datum.Number(math.NaN()),
		"inf":               datum.Number(math.Inf(1)),
		"-inf":              datum.Number(math.Inf(-1)),
		"-3p1":              datum.Number(-6),
		"1p-1":              datum.Number(0.5),
		"1p-1074":           datum.Number(math.SmallestNonzeroFloat64),
		`""`:                datum.Words(""),
		`"a"`:               datum.Words("a"),
		`"a\22\0a"`:         datum.Words("a\"\n"),
		`"none"`:            datum.Words("none"),
		`"3p0"`:             datum.Words("3p0"),
		`"?"`:               datum.Words("?"),
		`"\5c61"`:           datum.Words(`\61`),
		`"\22\22"`:          datum.Words(`""`),
		`"` + escapes + `"`: datum.Words(strings.Repeat("\x00", api.MaxText)),
		`"` + strings.Repeat("x", api.MaxText) + `"`: datum.Words(strings.Repeat("x", api.MaxText)),
	}
}

func TestPrintAndParse(t *testing.T) {
	for s, v := range printed() {
		if got := datum.Print(v); got != s {
			t.Errorf("P3.5: Print(%s) is %q, not %q", show(v), got, s)
		}
		if got, e := datum.Parse(s); !exact(got, v) || e != api.OK {
			t.Errorf("P3.5: Parse(%q) is %s, %d, not %s", s, show(got), e, show(v))
		}
	}
	l := ascending()
	for _, bits := range manyBits() {
		l = append(l, datum.Number(math.Float64frombits(bits)))
	}
	for _, s := range strangeTexts() {
		l = append(l, datum.Words(s))
	}
	for _, v := range l {
		if got, e := datum.Parse(datum.Print(v)); !exact(got, v) || e != api.OK || !datum.Same(got, v) {
			t.Fatalf("P3.6: Parse of Print of %s is %s, %d", show(v), show(got), e)
		}
	}
}

func checkParseError(t *testing.T, want api.Errno, l []string) {
	t.Helper()
	for _, s := range l {
		if got, e := datum.Parse(s); !exact(got, api.Value{}) || e != want {
			t.Errorf("P3.5: Parse(%q) is %s, %d, not the error %d", s, show(got), e, want)
		}
	}
}

func TestParseErrors(t *testing.T) {
	checkParseError(t, api.ErrForm, unformed())
	checkParseError(t, api.ErrForm, []string{
		"", "a", "?", "None", "NONE", "none ", " none", "nonenone", "non", "no", "none\n", "none\x00", "\"none", "none\"", "a\"", " \"a\"",
		"3", "3p", "p0", "+3p0", "03p0", "3p00", "3p-0", "3P0", "NaN", "Inf", "+inf", "-nan", " 0", "0 ", "-", "1e5", "0.5", "0p0", "3p0\n", "'a'",
	})
	checkParseError(t, api.ErrRange, []string{"2p0", "-2p0", "1p1024", "1p-1075", "9007199254740993p0", "1p99999999999999999999", "1p-99999999999999999999"})
	checkParseError(t, api.ErrLong, []string{
		`"` + strings.Repeat("x", api.MaxText+1) + `"`, `"` + strings.Repeat(`\00`, api.MaxText+1) + `"`,
		`"` + strings.Repeat("x", api.MaxText) + `\ff"`, `"` + strings.Repeat(" ", 1<<16) + `"`,
	})
}

func TestParseOfAnyByte(t *testing.T) {
	for i := range 1 << 8 {
		for _, s := range []string{"", "none", "3p0", `"a"`} {
			for place := range len(s) + 1 {
				with := s[:place] + string([]byte{byte(i)}) + s[place:]
				v, e := datum.Parse(with)
				if e == api.OK && datum.Print(v) != with || e != api.OK && !exact(v, api.Value{}) {
					t.Errorf("P3.5: Parse(%q) is %s, %d", with, show(v), e)
				}
				if with[0] == '"' || with == "none" {
					continue
				}
				// What is neither a text nor none is read as num.Parse reads it.
				x, wanted := num.Parse(with)
				if e != wanted || e == api.OK && !exact(v, datum.Number(x)) {
					t.Errorf("P3.5: Parse(%q) is %s, %d, not %v, %d", with, show(v), e, x, wanted)
				}
			}
		}
	}
}

func TestFormsTellValuesApart(t *testing.T) {
	l := ascending()
	for _, a := range l {
		for _, b := range l {
			same := datum.Same(a, b)
			if (datum.Print(a) == datum.Print(b)) != same || bytes.Equal(put(a), put(b)) != same {
				t.Errorf("P3.6: %s and %s: same %t, prints %q and %q, bytes %x and %x", show(a), show(b), same, datum.Print(a), datum.Print(b), put(a), put(b))
			}
		}
	}
}

func TestExamples(t *testing.T) {
	one, x, none := datum.Number(1), datum.Words("x"), api.Value{}
	minus, nan := datum.Number(math.Copysign(0, -1)), datum.Number(math.NaN())
	if v, e := datum.Plus(one, x); e != api.ErrType || !exact(v, none) {
		t.Errorf("P3.3: Plus of 1 and a text is %s, %d", show(v), e)
	}
	if v, e := datum.Plus(none, minus); e != api.OK || !exact(v, datum.Number(0)) {
		t.Errorf("P3.3: Plus of None and minus zero is %s, %d", show(v), e)
	}
	if datum.Compare(none, nan) != -1 || datum.Compare(nan, datum.Words("")) != -1 || datum.Same(minus, datum.Number(0)) {
		t.Error("P3.2: None, NaN, the empty text, and the zeros")
	}
}
