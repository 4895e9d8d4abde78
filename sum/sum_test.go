package sum

import (
	"hash/adler32"
	"math"
	"math/big"
	"math/rand"
	"strconv"
	"strings"
	"testing"

	"stanchion/api"
)

// behind are bytes that may stand behind a sealed text: such that look like more of it, too.
func behind() []string {
	return []string{"", ";", "0", "0;", "7;", "99999999999999999999999", "a", "\x00", "\xff\xfe", "1;a6422626;", " "}
}

// texts are such of any bytes, short ones and such whose halves go round often.
func texts() []string {
	every := make([]byte, 256)
	for i := range every {
		every[i] = byte(i)
	}
	return []string{"", "a", "\x00", "\xff", ";", "1;a6422626;", "abc", "Wikipedia", "äöü", string(every),
		strings.Repeat("\x00", 1000), strings.Repeat("\x00", 65520), strings.Repeat("\x00", 65521), strings.Repeat("\x00", 65522),
		strings.Repeat("\xff", 256) + "\xef", strings.Repeat("\xff", 256) + "\xf0", strings.Repeat("\xff", 256) + "\xf1", // A is 65520, 0 and 1
		strings.Repeat("\xff", 1000), strings.Repeat("\xff", api.MaxText), strings.Repeat(string(every), 300)}
}

// random are texts of bytes by lot, always the same ones.
func random(n, most int) []string {
	r := rand.New(rand.NewSource(2))
	l := make([]string, n)
	for i := range l {
		b := make([]byte, r.Intn(most+1))
		r.Read(b)
		l[i] = string(b)
	}
	return l
}

// modulo is a whole number modulo 65521, at least 0.
func modulo(v *big.Int) uint32 {
	return uint32(new(big.Int).Mod(v, big.NewInt(65521)).Uint64())
}

// toldOf is Of, word by word as the chapter tells it, with numbers of any size and one modulo at the end.
func toldOf(s string) uint32 {
	a, b := big.NewInt(1), big.NewInt(0)
	for _, c := range []byte(s) {
		a.Add(a, big.NewInt(int64(c)))
		b.Add(b, a)
	}
	return 65536*modulo(b) + modulo(a)
}

// toldJoin is Join, word by word as P2.1 tells it, with numbers of any size.
func toldJoin(a, b uint32, n int) (uint32, api.Errno) {
	if n < 0 || a/65536 >= 65521 || a%65536 >= 65521 || b/65536 >= 65521 || b%65536 >= 65521 {
		return 0, api.ErrArg
	}
	less := big.NewInt(int64(a%65536) - 1)
	lower := new(big.Int).Add(less, big.NewInt(int64(b%65536)))
	upper := new(big.Int).Mul(big.NewInt(int64(n)), less)
	upper.Add(upper, big.NewInt(int64(a/65536)+int64(b/65536)))
	return 65536*modulo(upper) + modulo(lower), api.OK
}

func wantOf(t *testing.T, s string, v uint32) {
	t.Helper()
	if v1 := Of(s); v1 != v {
		t.Errorf("Of(%.60q, %d bytes): %d; want %d", s, len(s), v1, v)
	}
}

func wantJoin(t *testing.T, a, b uint32, n int, v uint32, e api.Errno) {
	t.Helper()
	if v1, e1 := Join(a, b, n); v1 != v || e1 != e {
		t.Errorf("Join(%#x, %#x, %d): %#x, %d; want %#x, %d", a, b, n, v1, e1, v, e)
	}
}

func wantOpen(t *testing.T, f string, most int, s, rest string, e api.Errno) {
	t.Helper()
	if s1, rest1, e1 := Open(f, most); s1 != s || rest1 != rest || e1 != e {
		t.Errorf("Open(%.60q, %d): %.60q, %.60q, %d; want %.60q, %.60q, %d", f, most, s1, rest1, e1, s, rest, e)
	}
}

// sealed is s with any number behind it.
func sealed(s string, v uint64) string {
	return strconv.Itoa(len(s)) + ";" + s + strconv.FormatUint(v, 10) + ";"
}

// TestP2_1Of: sums of texts, the empty one and such whose halves go round among them.
func TestP2_1Of(t *testing.T) {
	wantOf(t, "", 1)
	wantOf(t, "a", 6422626)
	wantOf(t, "\x00", 65536+1)
	wantOf(t, "\xff", 256*65536+256)
	wantOf(t, "Wikipedia", 0x11e60398)
	wantOf(t, strings.Repeat("\x00", 65520), 65520*65536+1) // the greatest B
	wantOf(t, strings.Repeat("\x00", 65521), 1)             // and round it goes
	wantOf(t, strings.Repeat("\x00", 65522), 65536+1)
	for i, v := range []uint32{65520, 0, 1} {
		s := strings.Repeat("\xff", 256) + string([]byte{byte(0xef + i)})
		if a := Of(s) % 65536; a != v {
			t.Errorf("Of(%.60q): its lower half is %d; want %d", s, a, v)
		}
	}
	for _, s := range append(texts(), random(500, 3000)...) {
		wantOf(t, s, toldOf(s))
		wantOf(t, s, adler32.Checksum([]byte(s)))
	}
	for i := range 256 {
		for j := range 256 {
			s := string([]byte{byte(i), byte(j)})
			wantOf(t, s, toldOf(s))
		}
	}
}

// TestP2_1Join: two sums, and how many bytes the second text has.
func TestP2_1Join(t *testing.T) {
	wantJoin(t, 1, 1, 0, 1, api.OK)
	wantJoin(t, 0, 0, 0, 65520, api.OK) // A is 0 less 1
	wantJoin(t, 0, 1, 0, 0, api.OK)
	wantJoin(t, 0, 1, 1, 65520*65536, api.OK) // B is 1 times (0 less 1)
	wantJoin(t, 0, 1, 65520, 1*65536, api.OK)
	wantJoin(t, 0, 1, 65521, 0, api.OK) // n goes round
	wantJoin(t, 2, 1, 65520, 65520<<16|2, api.OK)
	wantJoin(t, 2, 1, 65521, 2, api.OK)
	wantJoin(t, 2, 1, 65522, 65536+2, api.OK)
	wantJoin(t, 65520<<16|65520, 65520<<16|65520, 0, 65519<<16|65518, api.OK)
	wantJoin(t, 65520<<16|65520, 65520<<16|65520, 65520, 0<<16|65518, api.OK)
	wantJoin(t, 65520<<16|65520, 1, 0, 65520<<16|65520, api.OK)
	wantJoin(t, 1, 65520<<16|65520, 7, 65520<<16|65520, api.OK)
	wantJoin(t, 2, 1, math.MaxInt, uint32(math.MaxInt%65521)<<16|2, api.OK)
	wantJoin(t, 0x30001, 0x50001, math.MaxInt, 0x80001, api.OK)
	wantJoin(t, Of("Wiki"), Of("pedia"), 5, 0x11e60398, api.OK)
}

// TestP2_1JoinArg: n below 0, and each of the four halves at 65520, at 65521 and above.
func TestP2_1JoinArg(t *testing.T) {
	for _, n := range []int{-1, -2, -65521, math.MinInt32, math.MinInt} {
		wantJoin(t, 1, 1, n, 0, api.ErrArg)
		wantJoin(t, math.MaxUint32, 1, n, 0, api.ErrArg)
	}
	for place := range 4 {
		for _, half := range []uint32{65520, 65521, 65522, 65535} {
			four := [4]uint32{3, 4, 5, 6}
			four[place] = half
			a, b := four[0]<<16|four[1], four[2]<<16|four[3]
			e := api.ErrArg
			if half == 65520 {
				e = api.OK
			}
			for _, n := range []int{0, 1, math.MaxInt} {
				if _, e1 := Join(a, b, n); e1 != e {
					t.Errorf("Join(%#x, %#x, %d): %d; want %d", a, b, n, e1, e)
				}
				v, e := toldJoin(a, b, n)
				wantJoin(t, a, b, n, v, e)
			}
		}
	}
}

// TestP2_1JoinTold: the answer is the told one, for all halves and counts at and about the edges, and by lot.
func TestP2_1JoinTold(t *testing.T) {
	halves := []uint32{0, 1, 2, 255, 32760, 65519, 65520, 65521, 65535}
	counts := []int{math.MinInt, -1, 0, 1, 2, 65520, 65521, 65522, 1 << 31, 1 << 47, 1 << 48, 1<<62 + 1, math.MaxInt - 1, math.MaxInt}
	for _, i := range halves {
		for _, j := range halves {
			for _, k := range halves {
				for _, l := range halves {
					for _, n := range counts {
						a, b := i<<16|j, k<<16|l
						v, e := toldJoin(a, b, n)
						wantJoin(t, a, b, n, v, e)
					}
				}
			}
		}
	}
	r := rand.New(rand.NewSource(3))
	for range 100000 {
		a, b, n := r.Uint32(), r.Uint32(), int(r.Uint64()>>r.Intn(64))
		v, e := toldJoin(a, b, n)
		wantJoin(t, a, b, n, v, e)
	}
}

// TestP2_2Seal: a text's bytes, and its sum's.
func TestP2_2Seal(t *testing.T) {
	for _, x := range []struct{ s, f string }{{"", "0;1;"}, {"a", "1;a6422626;"}, {"\x00", "1;\x0065537;"}, {"Wikipedia", "9;Wikipedia300286872;"},
		{"ä", "2;ä36438376;"}} {
		if f := Seal(x.s); f != x.f {
			t.Errorf("Seal(%q): %q; want %q", x.s, f, x.f)
		}
	}
	for _, s := range append(texts(), random(200, 300)...) {
		if f := Seal(s); f != sealed(s, uint64(toldOf(s))) {
			t.Errorf("Seal(%.60q): %.60q", s, f)
		}
	}
}

// TestP2_2Open: a sealed text, the bound at its length, above it and below.
func TestP2_2Open(t *testing.T) {
	for _, rest := range behind() {
		for _, most := range []int{1, 2, api.MaxText, math.MaxInt} {
			wantOpen(t, "1;a6422626;"+rest, most, "a", rest, api.OK)
		}
		for _, most := range []int{0, -1, math.MinInt} {
			wantOpen(t, "1;a6422626;"+rest, most, "", "", api.ErrBig)
		}
		wantOpen(t, "0;1;"+rest, 0, "", rest, api.OK)
		wantOpen(t, "0;1;"+rest, -1, "", "", api.ErrBig)
		wantOpen(t, "0;1;"+rest, math.MinInt, "", "", api.ErrBig)
	}
}

// TestP2_2OpenText: an error of the text stands ahead of all of the number.
func TestP2_2OpenText(t *testing.T) {
	for _, most := range []int{math.MinInt, -1, 0, 1, math.MaxInt} {
		wantOpen(t, "", most, "", "", api.ErrMore)
		wantOpen(t, "1", most, "", "", api.ErrMore)
		wantOpen(t, ";a6422626;", most, "", "", api.ErrForm)
		wantOpen(t, "01;a6422626;", most, "", "", api.ErrForm)
		wantOpen(t, "a6422626;", most, "", "", api.ErrForm)
		wantOpen(t, "18446744073709551616;a", most, "", "", api.ErrForm)
	}
	wantOpen(t, "1;", 1, "", "", api.ErrMore)
	wantOpen(t, "20;a6422626;", 20, "", "", api.ErrMore)
	wantOpen(t, "20;a6422626;", 19, "", "", api.ErrBig)
	wantOpen(t, "2;ab;", 1, "", "", api.ErrBig)
	wantOpen(t, "2;ab7;", 1, "", "", api.ErrBig)
	wantOpen(t, "18446744073709551615;a", math.MaxInt, "", "", api.ErrBig)
}

// TestP2_2OpenNumber: an error of the number stands ahead of its not being the sum.
func TestP2_2OpenNumber(t *testing.T) {
	for _, x := range []struct {
		f string
		e api.Errno
	}{{"", api.ErrMore}, {"6", api.ErrMore}, {"642262", api.ErrMore}, {"6422626", api.ErrMore}, {"7", api.ErrMore}, {"18446744073709551615", api.ErrMore},
		{";", api.ErrForm}, {"x", api.ErrForm}, {"-6422626;", api.ErrForm}, {"+6422626;", api.ErrForm}, {" 6422626;", api.ErrForm}, {"06422626;", api.ErrForm},
		{"6422626:", api.ErrForm}, {"6422626 ;", api.ErrForm}, {"18446744073709551616;", api.ErrForm}, {"6422626000000000000000", api.ErrForm},
		{"0;", api.ErrSum}, {"1;", api.ErrSum}, {"6422625;", api.ErrSum}, {"6422627;", api.ErrSum}, {"18446744073709551615;", api.ErrSum}} {
		wantOpen(t, "1;a"+x.f, 1, "", "", x.e)
	}
}

// TestP2_2OpenSum: a number that is not the sum, whatever stands behind: the sum with each of its bits changed, such above 32 bits among them.
func TestP2_2OpenSum(t *testing.T) {
	for _, s := range []string{"", "a", "Wikipedia", "\xff\x00", strings.Repeat("\x00", 65520)} {
		v := uint64(Of(s))
		for i := range 64 {
			for _, rest := range behind() {
				wantOpen(t, sealed(s, v^1<<i)+rest, len(s), "", "", api.ErrSum)
			}
		}
		wantOpen(t, sealed(s, v+1<<32), len(s), "", "", api.ErrSum)
		wantOpen(t, sealed(s, v|0xffffffff00000000), len(s), "", "", api.ErrSum)
		wantOpen(t, sealed(s, v+65521), len(s), "", "", api.ErrSum)
		wantOpen(t, sealed(s, v+65521<<16), len(s), "", "", api.ErrSum)
		wantOpen(t, sealed(s, v), len(s), s, "", api.OK)
	}
	wantOpen(t, "1;b6422626;", 1, "", "", api.ErrSum)
}

// TestP2_3Sealed: what was sealed is opened as it was, whatever stands behind it.
func TestP2_3Sealed(t *testing.T) {
	for _, s := range append(texts(), random(200, 300)...) {
		for _, rest := range behind() {
			wantOpen(t, Seal(s)+rest, len(s), s, rest, api.OK)
			wantOpen(t, Seal(s)+rest, math.MaxInt, s, rest, api.OK)
		}
	}
	for i := range 256 {
		s := string([]byte{byte(i)})
		wantOpen(t, Seal(s)+s, 1, s, s, api.OK)
	}
}

// TestP2_3Beginning: no beginning of what was sealed is opened: more bytes are missed in each.
func TestP2_3Beginning(t *testing.T) {
	for _, s := range append(texts(), random(50, 100)...) {
		f := Seal(s)
		for n := range f {
			if n < 600 || n > len(f)-30 {
				wantOpen(t, f[:n], len(s), "", "", api.ErrMore)
			}
		}
	}
}

// TestP2_3Changed: one byte changed, anywhere and into any other: another sum.
func TestP2_3Changed(t *testing.T) {
	for _, s := range append(random(20, 40), "a", "\x00", "\xff", strings.Repeat("\x00", 300), strings.Repeat("\xff", 256)+"\xf0") {
		v := Of(s)
		for i := range len(s) {
			for c := range 256 {
				other := s[:i] + string([]byte{byte(c)}) + s[i+1:]
				if other != s && Of(other) == v {
					t.Errorf("%.60q: the byte %d as %d doesn't show", s, i, c)
				}
				if other != s {
					wantOpen(t, sealed(other, uint64(v)), len(s), "", "", api.ErrSum)
				}
			}
		}
	}
}

// TestP2_3ChangedLong: the same in long texts, at their ends and where B goes round.
func TestP2_3ChangedLong(t *testing.T) {
	s := strings.Repeat("\x00", 65522)
	v := Of(s)
	for _, i := range []int{0, 1, 2, 32760, 65519, 65520, 65521} {
		for _, c := range []byte{1, 2, 128, 255} {
			if Of(s[:i]+string([]byte{c})+s[i+1:]) == v {
				t.Errorf("the byte %d as %d doesn't show", i, c)
			}
		}
	}
}

// TestP2_3Swapped: two unlike bytes that stand together change places: another sum.
func TestP2_3Swapped(t *testing.T) {
	swapped := 0
	for _, s := range append(texts(), random(50, 200)...) {
		v := Of(s)
		for i := range min(len(s)-1, 600) {
			if s[i] == s[i+1] {
				continue
			}
			swapped++
			other := s[:i] + s[i+1:i+2] + s[i:i+1] + s[i+2:]
			if Of(other) == v {
				t.Errorf("%.60q: that the byte %d changed places doesn't show", s, i)
			}
			wantOpen(t, sealed(other, uint64(v)), len(s), "", "", api.ErrSum)
		}
	}
	if swapped == 0 {
		t.Error("no two changed places")
	}
	for i := range 256 {
		for j := range i {
			if Of(string([]byte{byte(i), byte(j)})) == Of(string([]byte{byte(j), byte(i)})) {
				t.Errorf("%d and %d: that they changed places doesn't show", i, j)
			}
		}
	}
}

// TestP2_3Join: the sum of two texts, one behind the other, is the Join of their sums.
func TestP2_3Join(t *testing.T) {
	l := append(texts(), random(30, 500)...)
	for _, x := range l {
		for _, y := range l {
			wantJoin(t, Of(x), Of(y), len(y), Of(x+y), api.OK)
		}
	}
	s := strings.Repeat("\xff\x00\x7f", 400)
	for i := range len(s) + 1 {
		wantJoin(t, Of(s[:i]), Of(s[i:]), len(s)-i, Of(s), api.OK)
	}
}
