// Package codec is layer 1: see shared/doc/01-codec.md.
package codec

import (
	"iter"
	"math/bits"

	"sexton/api"
)

const (
	mostBytes = 4    // of a number
	mostTexts = 1000 // of a row
)

// Number is P1.1.
func Number(n int) (string, api.Errno) {
	if n < 0 || n > api.MaxNumber {
		return "", api.ErrArg
	}
	return string(addNumber(nil, n)), api.OK
}

// Text is P1.1.
func Text(s string) (string, api.Errno) {
	if len(s) > api.MaxText {
		return "", api.ErrLimit
	}
	return string(addText(nil, s)), api.OK
}

// Row is P1.1.
func Row(l []string) (string, api.Errno) {
	if len(l) > mostTexts {
		return "", api.ErrLimit
	}
	b := addNumber(nil, len(l))
	for _, s := range l {
		if len(s) > api.MaxText {
			return "", api.ErrLimit
		}
		b = addText(b, s)
	}
	return string(b), api.OK
}

// GetNumber is P1.2.
func GetNumber(s string) (int, string, bool) { return get(s, readNumber) }

// GetText is P1.2.
func GetText(s string) (string, string, bool) { return get(s, readText) }

// GetRow is P1.2.
func GetRow(s string) ([]string, string, bool) { return get(s, readRow) }

// addNumber asks for a number that Number takes.
func addNumber(b []byte, n int) []byte {
	b = append(b, byte(width(n)))
	for d := range fromHighest(n) {
		b = append(b, d)
	}
	return b
}

func addText(b []byte, s string) []byte {
	return append(addNumber(b, len(s)), s...)
}

// width is how few bytes hold n: 0 needs none.
func width(n int) int { return (bits.Len(uint(n)) + 7) / 8 }

func fromHighest(n int) iter.Seq[byte] {
	return func(yield func(byte) bool) {
		for i := width(n) - 1; i >= 0; i-- {
			if !yield(byte(n >> (8 * i))) {
				return
			}
		}
	}
}

// taker hands out the next n bytes of what is read; false, if there are fewer.
type taker func(n int) (string, bool)

// open lets several readers go on in one text, each where the last one ended:
// take moves on, rest is what it has not come to yet.
func open(s string) (take taker, rest func() string) {
	take = func(n int) (string, bool) {
		if n > len(s) {
			return "", false
		}
		part := s[:n]
		s = s[n:]
		return part, true
	}
	rest = func() string { return s }
	return take, rest
}

// get is what all readers share: what a failed one has come to is not told.
func get[T any](s string, read func(taker) (T, bool)) (T, string, bool) {
	take, rest := open(s)
	v, ok := read(take)
	if !ok {
		var zero T
		return zero, "", false
	}
	return v, rest(), true
}

func readNumber(take taker) (int, bool) {
	head, ok := take(1)
	if !ok || head[0] > mostBytes {
		return 0, false
	}
	digits, ok := take(int(head[0]))
	if !ok {
		return 0, false
	}
	n := 0
	for i := range len(digits) {
		n = n<<8 | int(digits[i])
	}
	// A number has one form only: more bytes than it needs are none's.
	if width(n) != len(digits) {
		return 0, false
	}
	return n, true
}

func readText(take taker) (string, bool) {
	n, ok := readNumber(take)
	if !ok || n > api.MaxText {
		return "", false
	}
	return take(n)
}

func readRow(take taker) ([]string, bool) {
	n, ok := readNumber(take)
	if !ok || n > mostTexts {
		return nil, false
	}
	var l []string
	for range n {
		s, ok := readText(take)
		if !ok {
			return nil, false
		}
		l = append(l, s)
	}
	return l, true
}
