package prog

import (
	"strings"

	"headrace/api"
	"headrace/datum"
)

// How programs are written: a key or a text is a word between quotes.
const (
	space       = " "
	quote       = "\""
	unknownWord = "?"
)

// Print returns the text of p.
func Print(p []api.Op) string {
	var words []string
	for _, op := range p {
		words = append(words, printStep(op))
	}
	return strings.Join(words, space)
}

// printStep returns the text of a step.
func printStep(op api.Op) string {
	s, ok := stepOf(op.Code)
	if !ok {
		return unknownWord
	}
	switch s.names {
	case namesKey:
		return s.word + space + datum.Quote(op.Key)
	case namesValue:
		return s.word + space + datum.Print(op.Value)
	default:
		return s.word
	}
}

// Parse returns the program with the text s.
func Parse(s string) ([]api.Op, api.Errno) {
	words, ok := split(s)
	if !ok {
		return nil, api.ErrForm
	}
	var p []api.Op
	for len(words) > 0 {
		op, size, e := parseStep(words)
		if e != api.OK {
			return nil, e
		}
		p = append(p, op)
		words = words[size:]
	}
	if e := Check(p); e != api.OK {
		return nil, e
	}
	return p, api.OK
}

// split returns the words of s, and whether all its quotes stand where they may.
func split(s string) ([]string, bool) {
	var words []string
	for {
		s = strings.TrimLeft(s, space)
		if s == "" {
			return words, true
		}
		size, ok := sizeOfFirst(s)
		if !ok {
			return nil, false
		}
		words = append(words, s[:size])
		s = s[size:]
	}
}

// sizeOfFirst returns the number of bytes of the word that s begins with, and whether its quotes stand where they may.
func sizeOfFirst(s string) (int, bool) {
	inner, quoted := strings.CutPrefix(s, quote)
	if quoted {
		text, rest, closed := strings.Cut(inner, quote)
		return len(text) + 2*len(quote), closed && (rest == "" || strings.HasPrefix(rest, space))
	}
	word, _, _ := strings.Cut(s, space)
	return len(word), !strings.Contains(word, quote)
}

// parseStep returns the step that the words begin with, and the number of its words.
func parseStep(words []string) (op api.Op, size int, e api.Errno) {
	code := codeOf(words[0])
	s, ok := stepOf(code)
	if !ok {
		return api.Op{}, 0, api.ErrKind
	}
	op.Code = code
	if s.names == namesNothing {
		return op, 1, api.OK
	}
	if len(words) < 2 {
		return api.Op{}, 0, api.ErrShort
	}
	if s.names == namesKey {
		op.Key, e = parseKey(words[1])
	} else {
		op.Value, e = datum.Parse(words[1])
	}
	return op, 2, e
}

// codeOf returns the code with the word, or 0 if there is none.
func codeOf(word string) int {
	for code, s := range steps {
		if s.word == word {
			return code
		}
	}
	return 0
}

// parseKey returns the key whose Quote is the word.
func parseKey(word string) (string, api.Errno) {
	key, e := datum.Unquote(word)
	if e != api.OK {
		return "", e
	}
	if !datum.Key(key) {
		return "", api.ErrForm
	}
	return key, api.OK
}
