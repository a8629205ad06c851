// Package keys is layer 1: values as keys, bytes that are ordered as the values are.
package keys

import (
	"cmp"
	"strings"

	"concordance/api"
)

// The marks are ordered as the kinds are: numbers ahead of texts. A text's end
// is below everything that may go on behind it, so a text stands ahead of those
// that begin with it.
const (
	numberMark  = 0x10
	textMark    = 0x20
	zeroByte    = 0x00
	zeroWithin  = 0xFF // behind a zeroByte: the text has that zero
	textEnd     = 0x01 // behind a zeroByte: the text is over
	numberBytes = 6
)

// Value of a column: a number, or a text.
type Value struct {
	Text   string
	N      int
	IsText bool
}

// Number as a value.
func Number(n int) Value { return Value{N: n} }

// Text as a value.
func Text(s string) Value { return Value{Text: s, IsText: true} }

// Compare two values: -1, 0 or 1.
func Compare(a, b Value) int {
	switch {
	case a.IsText && b.IsText:
		return strings.Compare(a.Text, b.Text)
	case a.IsText:
		return 1
	case b.IsText:
		return -1
	}
	return cmp.Compare(a.N, b.N)
}

// Put: values as a key.
func Put(l []Value) (string, api.Errno) {
	var key []byte
	for _, v := range l {
		if e := check(v); e != api.OK {
			return "", e
		}
		if v.IsText {
			key = appendText(key, v.Text)
		} else {
			key = appendNumber(key, v.N)
		}
	}
	return string(key), api.OK
}

// check tells why v, which may be made by hand, is no value.
func check(v Value) api.Errno {
	if v.IsText {
		if len(v.Text) > api.MaxText {
			return api.ErrLong
		}
		if v.N != 0 {
			return api.ErrArg
		}
		return api.OK
	}
	if v.Text != "" || v.N < -api.MaxNumber || v.N > api.MaxNumber {
		return api.ErrArg
	}
	return api.OK
}

func appendNumber(key []byte, n int) []byte {
	key = append(key, numberMark)
	// Without MaxNumber added, numbers below 0 would stand behind the others.
	n += api.MaxNumber
	for i := range numberBytes {
		key = append(key, byte(n>>(8*(numberBytes-1-i))))
	}
	return key
}

func appendText(key []byte, s string) []byte {
	key = append(key, textMark)
	for i := range len(s) {
		key = append(key, s[i])
		if s[i] == zeroByte {
			key = append(key, zeroWithin)
		}
	}
	return append(key, zeroByte, textEnd)
}

// Get the values of a key.
func Get(s string) ([]Value, api.Errno) {
	var l []Value
	for s != "" {
		v, used, e := first(s)
		if e != api.OK {
			return nil, e
		}
		l = append(l, v)
		s = s[used:]
	}
	return l, api.OK
}

// first is the value that s, which has a byte at least, begins with, and how
// many bytes it takes.
func first(s string) (Value, int, api.Errno) {
	switch s[0] {
	case numberMark:
		return firstNumber(s)
	case textMark:
		return firstText(s)
	}
	return Value{}, 0, api.ErrForm
}

func firstNumber(s string) (Value, int, api.Errno) {
	const size = 1 + numberBytes
	if len(s) < size {
		return Value{}, 0, api.ErrShort
	}
	n := 0
	for i := range numberBytes {
		n = n<<8 | int(s[1+i])
	}
	n -= api.MaxNumber
	if n > api.MaxNumber {
		return Value{}, 0, api.ErrForm
	}
	return Number(n), size, api.OK
}

func firstText(s string) (Value, int, api.Errno) {
	var text []byte
	for i := 1; i < len(s); i++ {
		if s[i] != zeroByte {
			text = append(text, s[i])
			continue
		}
		i++
		if i == len(s) {
			break
		}
		switch s[i] {
		case zeroWithin:
			text = append(text, zeroByte)
		case textEnd:
			// Its length counts only here: a long text that doesn't end is ErrShort.
			if len(text) > api.MaxText {
				return Value{}, 0, api.ErrLong
			}
			return Text(string(text)), i + 1, api.OK
		default:
			return Value{}, 0, api.ErrForm
		}
	}
	return Value{}, 0, api.ErrShort
}

// After: the least key behind all that begin with some bytes.
func After(s string) string {
	// A byte FF can't be raised, so what ends in such bytes is left behind only
	// by raising the last byte ahead of them. (strings.TrimRight would trim
	// every byte that is no rune.)
	size := len(s)
	for size > 0 && s[size-1] == 0xFF {
		size--
	}
	if size == 0 {
		return ""
	}
	return s[:size-1] + string([]byte{s[size-1] + 1})
}
