package frame

import (
	"fmt"
	"slices"
	"strconv"
	"strings"
	"testing"

	"stanchion/api"
)

// long is a text of n bytes, in which figures and semicolons stand, so that a piece of it looks like frames.
func long(n int) string {
	return strings.Repeat("1;a0;x20", n/8+1)[:n]
}

// framed are the frames of texts, one behind the other, told without a call of the package.
func framed(l ...string) string {
	var b strings.Builder
	for _, t := range l {
		b.WriteString(strconv.Itoa(len(t)) + ";" + t)
	}
	return b.String()
}

// list is a row of texts.
func list(l ...string) []string {
	return l
}

// every calls f with all texts of at most n bytes out of signs.
func every(signs string, n int, f func(s string)) {
	f("")
	if n == 0 {
		return
	}
	for _, c := range []byte(signs) {
		every(signs, n-1, func(s string) {
			f(string(c) + s)
		})
	}
}

// bytewise are the pieces of s, each of one byte.
func bytewise(s string) []string {
	var l []string
	for i := range len(s) {
		l = append(l, s[i:i+1])
	}
	return l
}

// cut is s cut behind each byte whose bit is set in places.
func cut(s string, places int) []string {
	var l []string
	from := 0
	for i := 1; i < len(s); i++ {
		if places>>(i-1)&1 == 1 {
			l = append(l, s[from:i])
			from = i
		}
	}
	return append(l, s[from:])
}

// told is what a call, or a row of calls, answers.
type told struct {
	texts []string
	b     api.Buf
	e     api.Errno
}

// same: are two the same?
func (x told) same(y told) bool {
	return slices.Equal(x.texts, y.texts) && x.b == y.b && x.e == y.e
}

// String tells it in brief.
func (x told) String() string {
	return fmt.Sprintf("%s, the rest %.60q, bad %t, %d", brief(x.texts), x.b.Rest, x.b.Bad, x.e)
}

// none is what is told where bytes are none behind some texts.
func none(l []string) told {
	return told{texts: l, b: api.Buf{Bad: true}, e: api.ErrForm}
}

// brief is how many texts there are, and the first of them.
func brief(l []string) string {
	return fmt.Sprintf("%d texts %.20q", len(l), l[:min(len(l), 6)])
}

// fed feeds pieces to an empty buffer, one behind the other, till it is Bad, and sees on the way that no rest is too long.
func fed(t *testing.T, pieces []string) told {
	t.Helper()
	var x told
	for _, piece := range pieces {
		b, l, e := Feed(x.b, piece)
		if len(b.Rest) > api.MaxFrame+5 {
			t.Errorf("behind %.60q: a rest of %d bytes", piece, len(b.Rest))
		}
		x = told{append(x.texts, l...), b, e}
		if e != api.OK {
			break
		}
	}
	return x
}

// wantFed: what pieces come to. The first fault ends the test, here and below: of all short texts there would be thousands.
func wantFed(t *testing.T, pieces []string, want told) {
	t.Helper()
	if x := fed(t, pieces); !x.same(want) {
		t.Fatalf("%s: %v; want %v", brief(pieces), x, want)
	}
}

// wantFeed: what a Feed answers; that it answers the same again, and in a list of its own, is seen on the way.
func wantFeed(t *testing.T, b api.Buf, chunk string, want told) {
	t.Helper()
	for range 2 {
		after, l, e := Feed(b, chunk)
		if x := (told{l, after, e}); !x.same(want) {
			t.Fatalf("Feed(%.60q, %t, %.60q): %v; want %v", b.Rest, b.Bad, chunk, x, want)
		}
		spoil(l)
	}
}

// wantWhole: what a Whole answers; the same, and in a list of its own, when it is asked again.
func wantWhole(t *testing.T, s string, l []string, n int, more bool) {
	t.Helper()
	for range 2 {
		l1, n1, more1 := Whole(s)
		if !slices.Equal(l1, l) || n1 != n || more1 != more {
			t.Fatalf("Whole(%.60q): %s, %d, %t; want %s, %d, %t", s, brief(l1), n1, more1, brief(l), n, more)
		}
		spoil(l1)
	}
}

// spoil writes over a list, and over the room behind it.
func spoil(l []string) {
	all := l[:cap(l)]
	for i := range all {
		all[i] = "spoilt"
	}
}
