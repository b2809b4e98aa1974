package datum

import (
	"strings"

	"headrace/api"
	"headrace/num"
)

// How values are written: a text stands between quotes, and a byte of it that does not stand for
// itself is an escape and two digits.
const (
	noneWord    = "none"
	invalidWord = "?"
	quote       = "\""
	escape      = '\\'
	digits      = "0123456789abcdef"
	digitBits   = 4
	digitMask   = 1<<digitBits - 1
	escapedSize = 3
	firstPlain  = 32
	lastPlain   = 126
)

// Quote returns s between quotes, written with printable bytes of ASCII alone.
func Quote(s string) string {
	b := []byte(quote)
	for _, c := range []byte(s) {
		if isPlain(c) {
			b = append(b, c)
		} else {
			b = append(b, escape, digits[c>>digitBits], digits[c&digitMask])
		}
	}
	return string(append(b, quote...))
}

// isPlain tells whether c stands for itself between quotes.
func isPlain(c byte) bool {
	return c >= firstPlain && c <= lastPlain && c != quote[0] && c != escape
}

// Unquote returns the string whose Quote is s.
func Unquote(s string) (string, api.Errno) {
	rest, opened := strings.CutPrefix(s, quote)
	rest, closed := strings.CutSuffix(rest, quote)
	if !opened || !closed {
		return "", api.ErrForm
	}
	var b []byte
	for rest != "" {
		c, size := first(rest)
		if size == 0 {
			return "", api.ErrForm
		}
		b = append(b, c)
		rest = rest[size:]
	}
	return string(b), api.OK
}

// first returns the byte that is written at the beginning of s, which is not empty, and the number
// of bytes that it is written with; that is 0 if Quote writes no byte so.
func first(s string) (c byte, size int) {
	if isPlain(s[0]) {
		return s[0], 1
	}
	if s[0] != escape || len(s) < escapedSize {
		return 0, 0
	}
	high, low := strings.IndexByte(digits, s[1]), strings.IndexByte(digits, s[2])
	if high < 0 || low < 0 {
		return 0, 0
	}
	c = byte(high<<digitBits | low)
	if isPlain(c) {
		// Each string has one Quote, in which this byte stands for itself.
		return 0, 0
	}
	return c, escapedSize
}

// Print returns the text form of v.
func Print(v api.Value) string {
	if !May(v) {
		return invalidWord
	}
	switch v.Kind {
	case api.Num:
		return num.Print(v.Num)
	case api.Text:
		return Quote(v.Text)
	default:
		return noneWord
	}
}

// Parse returns the value whose Print is s.
func Parse(s string) (api.Value, api.Errno) {
	switch {
	case strings.HasPrefix(s, quote):
		return parseText(s)
	case s == noneWord:
		return api.Value{}, api.OK
	default:
		return parseNumber(s)
	}
}

// parseText returns the value of a quoted text.
func parseText(s string) (api.Value, api.Errno) {
	text, e := Unquote(s)
	switch {
	case e != api.OK:
		return api.Value{}, e
	case len(text) > api.MaxText:
		return api.Value{}, api.ErrLong
	default:
		return Words(text), api.OK
	}
}

// parseNumber returns the value of a number's text.
func parseNumber(s string) (api.Value, api.Errno) {
	x, e := num.Parse(s)
	if e != api.OK {
		return api.Value{}, e
	}
	return Number(x), api.OK
}
