package frame

import (
	"math/big"
	"math/rand"
	"slices"
	"strings"
	"testing"

	"stanchion/api"
)

// toldTake is chapter 1's TakeText of MaxFrame, as its words tell it, with numbers of any size.
func toldTake(s string) (string, string, api.Errno) {
	n := 0
	for n < len(s) && strings.IndexByte("0123456789", s[n]) >= 0 {
		n++
	}
	v := new(big.Int)
	if n > 0 {
		v.SetString(s[:n], 10)
	}
	switch {
	case n > 20, n > 1 && s[0] == '0', !v.IsUint64():
		return "", "", api.ErrForm
	case n == len(s):
		return "", "", api.ErrMore
	case s[n] != ';', n == 0:
		return "", "", api.ErrForm
	case v.Cmp(big.NewInt(2048)) > 0:
		return "", "", api.ErrBig
	case v.Cmp(big.NewInt(int64(len(s)-n-1))) > 0:
		return "", "", api.ErrMore
	}
	end := n + 1 + int(v.Int64())
	return s[n+1 : end], s[end:], api.OK
}

// toldWhole is Whole, as its words tell it.
func toldWhole(s string) ([]string, int, bool) {
	var l []string
	rest := s
	for {
		t, behind, e := toldTake(rest)
		if e != api.OK {
			return l, len(s) - len(rest), e == api.ErrMore
		}
		l, rest = append(l, t), behind
	}
}

// toldFeed is Feed, as its words tell it.
func toldFeed(b api.Buf, chunk string) told {
	if b.Bad {
		return told{b: b, e: api.ErrState}
	}
	s := b.Rest + chunk
	l, n, more := toldWhole(s)
	if more {
		return told{texts: l, b: api.Buf{Rest: s[n:]}}
	}
	return none(l)
}

// signs are such that short texts of them are frames, beginnings of frames, and none.
const signs = "012;a"

// TestP14_1Told: Whole is what its words tell, of all short texts, alone and where longer frames and figures stand ahead.
func TestP14_1Told(t *testing.T) {
	for _, front := range []string{"", "4;", "11;12345678", "204", "1844674407370955161"} {
		every(signs, 6, func(s string) {
			l, n, more := toldWhole(front + s)
			wantWhole(t, front+s, l, n, more)
		})
	}
}

// TestP14_2Told: Feed is what its words tell, of all short rests and pieces, Bad or not.
func TestP14_2Told(t *testing.T) {
	every(signs, 4, func(rest string) {
		every(signs, 3, func(chunk string) {
			for _, bad := range []bool{false, true} {
				b := api.Buf{Rest: rest, Bad: bad}
				wantFeed(t, b, chunk, toldFeed(b, chunk))
			}
		})
	})
}

// whole is what s comes to, in one piece.
func whole(s string) told {
	return toldFeed(api.Buf{}, s)
}

// TestP14_3EveryCut: all short texts, cut at all places.
func TestP14_3EveryCut(t *testing.T) {
	every(signs, 6, func(s string) {
		want := whole(s)
		for places := range 1 << max(len(s)-1, 0) {
			wantFed(t, cut(s, places), want)
		}
	})
}

// TestP14_3Wrapped: what was wrapped is told as it was, byte by byte, in two pieces cut at each place, with empty pieces between, and in one.
func TestP14_3Wrapped(t *testing.T) {
	var l []string
	var s strings.Builder
	for _, n := range []int{0, 1, 0, 9, 10, 99, 100, 2047, 999, 1000, 2048, 3} {
		f, e := Wrap(long(n))
		if e != api.OK {
			t.Fatalf("Wrap of %d bytes: %d", n, e)
		}
		l = append(l, long(n))
		s.WriteString(f)
	}
	all := s.String()
	want := told{texts: l}
	wantWhole(t, all, l, len(all), true)
	wantFed(t, bytewise(all), want)
	wantFed(t, list(all), want)
	for at := range len(all) {
		wantFed(t, list(all[:at], all[at:]), want)
		wantFed(t, list("", all[:at], "", "", all[at:], ""), want)
	}
}

// TestP14_3Lengths: a text of each length, between others: it is told by its last byte, and not ahead of it; some of them byte by byte.
func TestP14_3Lengths(t *testing.T) {
	for n := range 2049 {
		f, _ := Wrap(long(n))
		last := len(f) - 1
		short := told{texts: list("a"), b: api.Buf{Rest: f[:last]}}
		full := told{texts: list("a", long(n), "b")}
		wantFed(t, list("1;", "a"+f[:last]), short)
		wantFed(t, list("1;a"+f[:last], f[last:]+"1;b"), full)
		if n < 20 || n%64 == 0 {
			wantFed(t, bytewise("1;a"+f[:last]), short)
			wantFed(t, bytewise("1;a"+f+"1;b"), full)
		}
	}
}

// TestP14_3Rest: the longest rests: a byte short of the longest frame, and figures of a number that may still be one.
func TestP14_3Rest(t *testing.T) {
	f, _ := Wrap(long(api.MaxFrame))
	short := f[:len(f)-1]
	wantFed(t, bytewise(short), told{b: api.Buf{Rest: short}})
	wantFed(t, list(short), told{b: api.Buf{Rest: short}})
	wantFed(t, list(f+f+short), told{texts: list(long(api.MaxFrame), long(api.MaxFrame)), b: api.Buf{Rest: short}})
	for _, s := range []string{strings.Repeat("9", 19), "18446744073709551615"} {
		wantFed(t, bytewise(s), told{b: api.Buf{Rest: s}})
		wantFed(t, bytewise(s+";"), none(nil))
	}
	wantFed(t, bytewise("18446744073709551616"), none(nil))
}

// wild are texts of all kinds, framed one behind the other; now and then something is none.
func wild(r *rand.Rand) string {
	var s strings.Builder
	for range r.Intn(12) {
		t := make([]byte, []int{0, 1, 5, 40, 2048}[r.Intn(5)])
		for i := range t {
			t[i] = byte(r.Intn(256))
		}
		f, _ := Wrap(string(t))
		s.WriteString(f)
		if r.Intn(40) == 0 {
			s.WriteString(isNone()[r.Intn(len(isNone()))])
		}
	}
	return s.String() + goesOn()[r.Intn(len(goesOn()))]
}

// pieces are s, cut at places that hang on r: into pieces of about size bytes.
func pieces(r *rand.Rand, s string, size int) []string {
	var l []string
	for len(s) > 0 {
		n := min(r.Intn(2*size), len(s))
		l = append(l, s[:n])
		s = s[n:]
	}
	return l
}

// TestP14_3Walks: wild bytes, frames and none, cut anyhow, come to the same texts and the same buffer.
func TestP14_3Walks(t *testing.T) {
	r := rand.New(rand.NewSource(14))
	for range 200 {
		s := wild(r)
		want := whole(s)
		for _, size := range []int{1, 3, 50, 3000} {
			wantFed(t, pieces(r, s, size), want)
		}
	}
}

// TestP14_3Torn: wild bytes with one of them changed, left out or doubled: whatever they are then, the cut doesn't tell.
func TestP14_3Torn(t *testing.T) {
	r := rand.New(rand.NewSource(143))
	for range 200 {
		s := []byte(wild(r) + "1;a")
		at := r.Intn(len(s))
		switch r.Intn(3) {
		case 0:
			s[at] = byte(r.Intn(256))
		case 1:
			s = slices.Delete(s, at, at+1)
		default:
			s = slices.Insert(s, at, s[at])
		}
		want := whole(string(s))
		wantFed(t, bytewise(string(s)), want)
		wantFed(t, pieces(r, string(s), 30), want)
	}
}
