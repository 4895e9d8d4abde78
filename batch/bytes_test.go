package batch

import (
	"fmt"
	"math"
	"slices"
	"strconv"
	"strings"
	"testing"

	"stanchion/api"
)

// toldMay: may a batch be, as its words tell it?
func toldMay(b api.Batch) bool {
	may := (b.Kind == 1 || b.Kind == 2 && len(b.Writes) == 0) && len(b.Token) >= 1 && len(b.Token) <= 16 && len(b.Writes) <= 24
	for i, w := range b.Writes {
		may = may && len(w.Key) >= 1 && len(w.Key) <= 32 && len(w.Val) <= 64 && (!w.Del || w.Val == "")
		for j := range i {
			may = may && below(b.Writes[j].Key, w.Key)
		}
	}
	return may
}

// told are a batch's bytes, whether it may be or not.
func told(b api.Batch) string {
	return toldOf(fmt.Sprint(b.Kind), fmt.Sprint(len(b.Writes)), b)
}

// toldOf are a batch's bytes with this Kind, and this number of writes.
func toldOf(kind, many string, b api.Batch) string {
	var s strings.Builder
	fmt.Fprintf(&s, "%s;%d;%s%s;", kind, len(b.Token), b.Token, many)
	for _, w := range b.Writes {
		s.WriteString(toldWrite(w))
	}
	return s.String()
}

// toldWrite are a write's bytes.
func toldWrite(w api.Write) string {
	n := 0
	if w.Del {
		n = 1
	}
	return fmt.Sprintf("%d;%d;%s%d;%s", n, len(w.Key), w.Key, len(w.Val), w.Val)
}

// toldTake takes what looks like a batch's bytes off by strconv, and is content if these are the batch's very own.
func toldTake(s string) (api.Batch, bool) {
	var b api.Batch
	kind, rest := cutNum(s)
	b.Kind = kind
	b.Token, rest = cutText(rest)
	many, rest := cutNum(rest)
	for i := 0; i < many && rest != ""; i++ {
		var w api.Write
		var n int
		n, rest = cutNum(rest)
		w.Del = n != 0
		w.Key, rest = cutText(rest)
		w.Val, rest = cutText(rest)
		b.Writes = append(b.Writes, w)
	}
	if !toldMay(b) || told(b) != s {
		return api.Batch{}, false
	}
	return b, true
}

// cutNum is the number at the beginning of s, or 0, and what stands behind.
func cutNum(s string) (int, string) {
	front, rest, _ := strings.Cut(s, ";")
	n, _ := strconv.Atoi(front)
	return n, rest
}

// cutText is the text at the beginning of s, and what stands behind, as far as it is there.
func cutText(s string) (string, string) {
	n, rest := cutNum(s)
	n = min(max(n, 0), len(rest))
	return rest[:n], rest[n:]
}

// wantBytes: what May and Bytes tell of a batch; they are asked with spare room, which they don't write into, and twice.
func wantBytes(t *testing.T, b api.Batch, s string, e api.Errno) {
	t.Helper()
	in := roomyBatch(b)
	for range 2 {
		if may := May(in); may != (e == api.OK) {
			t.Errorf("%s may be: %t", show(b), may)
		}
		if s1, e1 := Bytes(in); s1 != s || e1 != e {
			t.Errorf("%s: %.200q, %d; want %.200q, %d", show(b), s1, e1, s, e)
		}
		wantUntouched(t, in.Writes, b.Writes, spareWrite, "Bytes")
	}
}

// wantTake: what Take tells of bytes; the batch is the caller's own.
func wantTake(t *testing.T, s string, b api.Batch, e api.Errno) {
	t.Helper()
	for range 2 {
		b1, e1 := Take(s)
		if !alike(b1, b) || e1 != e {
			t.Errorf("%.200q (%d bytes): %s, %d; want %s, %d", s, len(s), show(b1), e1, show(b), e)
		}
		spoil(b1.Writes, put("other", "other"))
	}
}

// wantTold: what Take tells of bytes is what is told. Was there a batch?
func wantTold(t *testing.T, s string) bool {
	t.Helper()
	b, is := toldTake(s)
	e := api.OK
	if !is {
		e = api.ErrForm
	}
	wantTake(t, s, b, e)
	return is
}

// mayBe are batches that may be: of both kinds, of no write, of one, of many; of the shortest and longest tokens, keys and values, of bytes of 128 and above, and of such as look like bytes of batches.
func mayBe() []api.Batch {
	return []api.Batch{
		commit("t"),
		giveUp("t"),
		commit("tt"),
		commit("\x00"),
		giveUp("\xff"),
		commit(";"),
		commit("0;"),
		giveUp("2;1;t0;"),
		commit(text(15)),
		commit(text(16)),
		giveUp(text(15)),
		giveUp(text(16)),
		commit(strings.Repeat("\x80", 16)),
		commit("t", put("a", "1")),
		commit("t", put("a", "")),
		commit("t", del("a")),
		commit("u", put("a", "1")),
		commit("t", put("b", "1")),
		commit("t", put("a", "2")),
		commit("t", put("a", "1"), del("b")),
		commit("t", del("a"), put("b", "1")),
		commit("t", del("a"), del("b")),
		commit("t", put("\x00", "\x00")),
		commit("t", put("a", "x"), put("a\x00", "x"), put("aa", "x"), put("b", "x")),
		commit("t", put("A", "9"), put("B", "8"), put("a", "7")),
		commit("t", put("10", "1"), put("9", "2")),
		commit("t", put("z", "\x7f"), put("\x80", "\x80\x00"), del("\xc3"), put("ä", "ö"), put("\xff", "\xff"), del("\xff\xff")),
		commit("t", put("0;", "1;1;a0;"), put("1;", told(commit("t"))), del(";")),
		commit("1;1;t1;", put("0;1;a0;", "0;")),
		commit("t", put(text(31), text(63))),
		commit("t", put(text(32), text(64))),
		commit("t", put(text(31), text(64)), put(text(32), text(63))),
		commit("t", del(text(32))),
		commit("t", put(strings.Repeat("\xff", 31), ""), put(strings.Repeat("\xff", 32), strings.Repeat("\xff", 64))),
		commit("t", risingPuts(2)...),
		commit("t", risingPuts(10)...),
		commit("t", risingPuts(11)...),
		commit("t", risingPuts(23)...),
		commit("t", risingPuts(24)...),
		commit(text(16), longest()...),
	}
}

// longest are as many and as long writes as a batch may have.
func longest() []api.Write {
	var l []api.Write
	for i := range 24 {
		l = append(l, put(text(31)+string([]byte{byte(i * 11)}), text(64)))
	}
	return l
}

// mayNot are batches that may not be, each by one fault, but the last ones, which have several.
func mayNot() []api.Batch {
	a, b, c := put("a", "1"), put("b", "2"), put("c", "3")
	kind := func(n int, w ...api.Write) api.Batch { return api.Batch{Kind: n, Token: "t", Writes: w} }
	return []api.Batch{
		kind(0), kind(3), kind(4), kind(-1), kind(-2), kind(math.MinInt), kind(math.MaxInt), kind(1<<32 + 1), kind(math.MinInt + 1),
		kind(0, a), kind(3, a), kind(-1, a),
		kind(2, a), kind(2, del("a")), kind(2, a, b), kind(2, risingPuts(24)...),
		commit(""), giveUp(""), commit("", a),
		commit(text(17)), giveUp(text(17)), commit(text(17), a), commit(text(18)), commit(text(70000)), giveUp(strings.Repeat("\xff", 17)),
		commit("t", risingPuts(25)...), commit("t", risingPuts(26)...), commit("t", risingPuts(99)...),
		commit("t", put("", "1")), commit("t", put("", "")), commit("t", del("")), commit("t", put("", "1"), a),
		commit("t", put(text(33), "1")), commit("t", del(text(33))), commit("t", a, put("b"+text(32), "")), commit("t", put(text(33), ""), b), commit("t", put(text(70000), "")),
		commit("t", a, a), commit("t", a, put("a", "2")), commit("t", a, del("a")), commit("t", del("a"), a), commit("t", del("a"), del("a")),
		commit("t", b, a), commit("t", a, b, a), commit("t", a, b, b), commit("t", b, c, a), commit("t", a, c, b), commit("t", c, b, a), commit("t", c, a, b),
		commit("t", del("b"), del("a")), commit("t", put("aa", ""), put("a", "")), commit("t", put("a", ""), put("A", "")), commit("t", put("9", ""), put("10", "")),
		commit("t", put("\x80", ""), put("z", "")), commit("t", put("\xff", ""), put("ä", "")),
		commit("t", put("a", text(65))), commit("t", put("a", text(66))), commit("t", a, put("b", text(65))), commit("t", put("a", text(65)), b), commit("t", put("a", text(70000))),
		commit("t", api.Write{Key: "a", Val: "1", Del: true}), commit("t", api.Write{Key: "a", Val: "\x00", Del: true}), commit("t", api.Write{Key: "a", Val: text(64), Del: true}),
		commit("t", a, api.Write{Key: "b", Val: "1", Del: true}), commit("t", api.Write{Key: "a", Val: "1", Del: true}, b), commit("t", api.Write{Key: "a", Val: text(65), Del: true}),
		{}, kind(0, b, a), commit("", b, a), commit(text(17), put("", "")), kind(2, put("", "")), commit("t", put(text(33), text(65))),
	}
}

// TestP7_1Bytes: batches that may be.
func TestP7_1Bytes(t *testing.T) {
	for _, b := range mayBe() {
		wantBytes(t, b, told(b), api.OK)
	}
	wantBytes(t, commit("t", put("a", "1"), del("b")), "1;1;t2;0;1;a1;11;1;b0;", api.OK)
	wantBytes(t, api.Batch{Kind: api.BGiveUp, Token: "ab", Writes: []api.Write{}}, "2;2;ab0;", api.OK)
	wantBytes(t, commit("\xff", put("\x80;", "\xfe")), "1;1;\xff1;0;2;\x80;1;\xfe", api.OK)
}

// TestP7_1BytesWrong: batches that may not be.
func TestP7_1BytesWrong(t *testing.T) {
	for _, b := range mayNot() {
		if toldMay(b) {
			t.Errorf("%s may be", show(b))
		}
		wantBytes(t, b, "", api.ErrArg)
	}
}

// TestP7_1BytesPlace: of many writes any one is at fault.
func TestP7_1BytesPlace(t *testing.T) {
	for at := range 24 {
		for fault := range 6 {
			b := commit("t", risingPuts(24)...)
			w := &b.Writes[at]
			switch fault {
			case 0:
				w.Val = text(65)
			case 1:
				w.Key += text(31)
			case 2:
				w.Key = ""
			case 3:
				w.Val, w.Del = "x", true
			case 4:
				w.Key = b.Writes[(at+23)%24].Key
			case 5:
				w.Key, b.Writes[(at+1)%24].Key = b.Writes[(at+1)%24].Key, w.Key
			}
			wantBytes(t, b, "", api.ErrArg)
			wantTake(t, told(b), api.Batch{}, api.ErrForm)
		}
	}
}

// TestP7_1Take: the bytes of batches that may be.
func TestP7_1Take(t *testing.T) {
	for _, b := range mayBe() {
		wantTake(t, told(b), b, api.OK)
		if !wantTold(t, told(b)) {
			t.Errorf("%s isn't told", show(b))
		}
	}
	wantTake(t, "1;1;t2;0;1;a1;11;1;b0;", commit("t", put("a", "1"), del("b")), api.OK)
	wantTake(t, "2;2;ab0;", giveUp("ab"), api.OK)
}

// TestP7_1TakeWrong: what would be the bytes of batches that may not be; Kinds and counts of writes that may not be, or tell fewer or more writes than stand there.
func TestP7_1TakeWrong(t *testing.T) {
	for _, b := range mayNot() {
		wantTake(t, told(b), api.Batch{}, api.ErrForm)
	}
	odd := []string{"", "-1", "+1", "01", "00", " 1", "1 ", "1.0", "0x1", "a", "\xb1", "-0",
		"4294967296", "4294967297", "9223372036854775807", "9223372036854775808", "9223372036854775809", "18446744073709551615", "18446744073709551616", "18446744073709551617", "99999999999999999999", "100000000000000000000"}
	for _, b := range mayBe() {
		for _, n := range append(odd, "0", "1", "2", "3", "4", "10", "11", "23", "24", "25", "26", "255", "256") {
			if n != fmt.Sprint(len(b.Writes)) {
				wantTake(t, toldOf(fmt.Sprint(b.Kind), n, b), api.Batch{}, api.ErrForm)
			}
			s := toldOf(n, fmt.Sprint(len(b.Writes)), b)
			if n != fmt.Sprint(b.Kind) && wantTold(t, s) && (len(b.Writes) > 0 || n != "1" && n != "2") {
				t.Errorf("%.200q was taken", s)
			}
		}
	}
	for _, n := range append(odd, "2", "3", "10") {
		for _, b := range []api.Batch{commit("t", put("a", "")), commit("t", del("a")), commit("t", put("a", "1"))} {
			w := toldWrite(b.Writes[0])
			wantTake(t, "1;1;t1;"+n+w[1:], api.Batch{}, api.ErrForm)
			wantTake(t, "1;1;t1;0;"+n+w[3:], api.Batch{}, api.ErrForm)
			wantTake(t, "1;1;t1;0;1;a"+n+";1", api.Batch{}, api.ErrForm)
			wantTake(t, "1;"+n+";t1;"+w, api.Batch{}, api.ErrForm)
		}
	}
	wantTake(t, "1;1;t1;1;1;a1;1", api.Batch{}, api.ErrForm)
	wantTake(t, "2;1;t1;0;1;a0;", api.Batch{}, api.ErrForm)
}

// TestP7_1TakeTorn: bytes that are cut anywhere, that have one more or one less anywhere, or another one.
func TestP7_1TakeTorn(t *testing.T) {
	n := 0
	for _, b := range mayBe() {
		s := told(b)
		if len(s) > 100 {
			continue
		}
		for i := range len(s) + 1 {
			if i < len(s) {
				wantTake(t, s[:i], api.Batch{}, api.ErrForm)
				wantTold(t, s[i+1:])
				wantTold(t, s[:i]+s[i+1:])
			}
			for c := range 256 {
				one := string([]byte{byte(c)})
				wantTold(t, s[:i]+one+s[i:])
				if i < len(s) && wantTold(t, s[:i]+one+s[i+1:]) {
					n++
				}
			}
		}
		for c := range 256 {
			wantTake(t, s+string([]byte{byte(c)}), api.Batch{}, api.ErrForm)
		}
	}
	if n == 0 {
		t.Error("nothing was taken")
	}
}

// TestP7_1TakeTornLong: the longest bytes, cut anywhere, with a byte less anywhere.
func TestP7_1TakeTornLong(t *testing.T) {
	s := told(commit(text(16), longest()...))
	for i := range len(s) {
		wantTake(t, s[:i], api.Batch{}, api.ErrForm)
		wantTake(t, s[:i]+s[i+1:], api.Batch{}, api.ErrForm)
	}
}

// TestP7_1Told: all short texts of the bytes of which batches are made: which are taken, and as what, as it is told.
func TestP7_1Told(t *testing.T) {
	n := 0
	for _, front := range []string{"", "1;", "2;", "1;1;t", "2;1;t", "1;1;t1;", "1;1;t1;0;1;a", "1;1;t1;1;1;a", "1;1;t2;0;1;a0;", "1;1;t2;1;1;a0;0;", "1;1;t1;0;", "1;1;t1;1;", "1;1;t2;0;1;a0;1;"} {
		for _, behind := range words("012;a", 6) {
			if wantTold(t, front+behind) {
				n++
			}
		}
	}
	if n != 189 {
		t.Errorf("%d were taken", n)
	}
}

// TestP7_1Same: states that are the same, and such as differ in one thing.
func TestP7_1Same(t *testing.T) {
	a, b, c := row("a", "1"), row("a", "1", "b", "2"), row("b", "2", "a", "1")
	all := []api.State{
		{}, state(a, nil), state(nil, a), state(a, a), state(b, nil), state(nil, b), state(c, nil), state(nil, c), state(a, b), state(b, a), state(b, b), state(b, c), state(c, b),
		state(row("a", "2"), nil), state(row("b", "1"), nil), state(row("", ""), nil), state(nil, row("", "")), state(row("", "a1"), nil), state(row("a1", ""), nil),
		state(row("a", "1", "a", "1"), nil), state(row("A", "1"), nil), state(row("a", "1", "b", "3"), nil), state(row("a", "1", "c", "2"), nil),
		state(nil, row("a", "2")), state(nil, row("b", "1")), state(a, row("t", "c")), state(a, row("t", "g")), state(a, row("u", "c")), state(row("\xff", "\x80"), nil), state(row("\xff", "\x81"), nil),
	}
	for i, x := range all {
		for j, y := range all {
			in, in1 := roomyState(x), roomyState(y)
			if Same(in, in1) != (i == j) {
				t.Errorf("%q and %q: %t", x, y, i != j)
			}
			wantStateUntouched(t, in, x, "Same")
			wantStateUntouched(t, in1, y, "Same")
		}
	}
	none := state([]api.Pair{}, []api.Pair{})
	if !Same(none, api.State{}) || !Same(api.State{}, none) || !Same(state(slices.Clone(b), nil), state(b, none.Toks)) {
		t.Error("lists without elements are the same, nil or not")
	}
}
