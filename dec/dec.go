// Package dec is layer 1: see shared/doc/01-dec.md.
package dec

import (
	"math"
	"strings"

	"stanchion/api"
)

// mostFigures is how many figures the greatest number, 2^64 - 1, has.
const mostFigures = 20

// end stands behind the figures of a number, so that no beginning of its bytes is a number.
const end = ';'

// Num are a number's bytes.
func Num(v uint64) string {
	var a [mostFigures + 1]byte
	at := mostFigures
	a[at] = end
	for {
		at--
		a[at] = '0' + byte(v%10)
		v /= 10
		if v == 0 {
			return string(a[at:])
		}
	}
}

// TakeNum takes one.
func TakeNum(s string) (uint64, string, api.Errno) {
	v, n, right := figures(s)
	switch {
	case right && n == len(s):
		return 0, "", api.ErrMore
	case !right:
		fallthrough
	case s[n] != end:
		fallthrough
	case n == 0:
		return 0, "", api.ErrForm
	}
	return v, s[n+1:], api.OK
}

// figures is the number that the figures at the beginning of s tell, and how many they are; right is false, if no number's bytes begin so.
// They aren't held against mostFigures: more of them tell a number above 2^64 - 1, or begin with 0.
func figures(s string) (v uint64, n int, right bool) {
loop:
	for n < len(s) {
		c := s[n]
		switch {
		case c < '0' || c > '9':
			break loop
		case n > 0 && s[0] == '0':
			fallthrough
		case v > (math.MaxUint64-uint64(c-'0'))/10:
			return 0, 0, false
		}
		v = v*10 + uint64(c-'0')
		n++
	}
	return v, n, true
}

// Text are a text's bytes.
func Text(t string) string {
	return Num(uint64(len(t))) + t
}

// TakeText takes one.
func TakeText(s string, most int) (string, string, api.Errno) {
	length, rest, e := TakeNum(s)
	switch {
	case e != api.OK:
		return "", "", e
	case above(length, most):
		return "", "", api.ErrBig
	case above(length, len(rest)):
		return "", "", api.ErrMore
	}
	return rest[:length], rest[length:], api.OK
}

// above: is v above a bound? Every number is above one below 0.
func above(v uint64, bound int) bool {
	return bound < 0 || v > uint64(bound)
}

// Row are a row's bytes.
func Row(l []string) string {
	var b strings.Builder
	b.WriteString(Num(uint64(len(l))))
	for _, t := range l {
		b.WriteString(Text(t))
	}
	return b.String()
}

// TakeRow takes one.
func TakeRow(s string, many, most int) ([]string, string, api.Errno) {
	count, rest, e := TakeNum(s)
	switch {
	case e != api.OK:
		return nil, "", e
	case above(count, many):
		return nil, "", api.ErrBig
	}
	// No room is made ahead: the count may tell far more texts than there are bytes.
	var l []string
	for range count {
		var t string
		if t, rest, e = TakeText(rest, most); e != api.OK {
			return nil, "", e
		}
		l = append(l, t)
	}
	return l, rest, api.OK
}
