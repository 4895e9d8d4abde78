package wire

import (
	"math/rand"
	"slices"
	"strings"
	"testing"

	"stanchion/api"
)

// TestP16_1Products: of all of these kinds, tokens and operations: which may be, and as what bytes, as it is told.
func TestP16_1Products(t *testing.T) {
	n := 0
	ops := []api.Op{{}, {Key: "a"}, {Val: "a"}, {Lo: "a"}, {Hi: "a"}, {Most: 1}}
	for kind := -1; kind <= 7; kind++ {
		ops = append(ops, api.Op{Kind: kind}, api.Op{Kind: kind, Key: text(32), Val: text(64), Lo: text(32), Hi: text(32), Most: 1 << 30},
			api.Op{Kind: kind, Key: text(33)}, api.Op{Kind: kind, Val: text(65)}, api.Op{Kind: kind, Lo: text(33)}, api.Op{Kind: kind, Hi: text(33)}, api.Op{Kind: kind, Most: -1}, api.Op{Kind: kind, Most: 1<<30 + 1})
	}
	for kind := -1; kind <= 8; kind++ {
		for _, token := range []string{"", "t", text(15), text(16), text(17)} {
			for _, o := range ops {
				for _, e := range []int{-1, 0, 1 << 30, 1<<30 + 1} {
					q := api.Req{Kind: kind, Epoch: e, Token: token, Op: o}
					if !toldMayReq(q) {
						wantReq(t, q, "", api.ErrArg)
						continue
					}
					wantReq(t, q, toldReq(q), api.OK)
					n++
				}
			}
		}
	}
	// Of the number that may be 2 each: RBegin and RStatus with 4 tokens, 3 kinds with none, the empty Op standing in the list twice; ROp with 12 operations.
	if n != 2*(2*(2*4+3)+12) {
		t.Errorf("%d may be", n)
	}
}

// TestP16_1Told: all short texts behind some beginnings: which are taken, and as what, as it is told.
func TestP16_1Told(t *testing.T) {
	n := 0
	for _, front := range []string{"", "1;", "2;0;", "3;0;0;", "4;1;2;3", "6;0;0;0;", "5;0;0;0;", "5;0;0;0;0;", "5;0;0;0;0;2;1;a", "5;0;0;0;0;5;0;0;", "5;0;0;0;0;5;0;0;0;0;", "4;0;0;0;16;0123456789", "4;0;0;0;17;0123456789a", "4;0;0;10737418", "5;1;1;1;0;4;0;0;0;0;107374"} {
		every(6, func(s string) {
			if wantToldReq(t, front+s) {
				n++
			}
		})
	}
	if n != 48703 {
		t.Errorf("%d were taken", n)
	}
}

// TestP16_2Told: the same of replies.
func TestP16_2Told(t *testing.T) {
	n := 0
	for _, front := range []string{"", "0;0;0;", "0;0;0;0;", "0;0;0;1", "1;2;3;0;0;", "0;0;0;0;0;0;", "0;0;0;0;0;1;0;", "0;0;0;0;0;0;1;1;", "0;0;0;0;0;0;0;2;", "0;0;0;0;0;0;0;2;1;1", "0;0;0;0;0;0;0;2;1;10;1;", "0;0;0;0;0;0;0;3;0;0;1;00;", "0;0;107374182", "0;0;0;0;64;" + text(62)} {
		every(6, func(s string) {
			if wantToldReply(t, front+s) {
				n++
			}
		})
	}
	if n != 372 {
		t.Errorf("%d were taken", n)
	}
}

// oddNums are such as stand ahead of a semicolon and are no number's only form, or tell one that is too great.
func oddNums() []string {
	return []string{"", "-1", "+1", "01", "00", "000", " 1", "1 ", "1.0", "0x1", "1e0", "1_0", "a", "\x00", "\xb1", "-0", "１", "1\x00", "17", "33", "65", "256", "2049",
		"1073741825", "4294967295", "4294967296", "4294967297", "9223372036854775807", "9223372036854775808", "9223372036854775809", "18446744073709551615", "18446744073709551616", "18446744073709551617", "36893488147419103233", "99999999999999999999", "100000000000000000000", strings.Repeat("9", 100)}
}

// forms is how many of oddNums, the first ones, are no number's form at all.
const forms = 18

// wantOdd: bytes of which any part has another number ahead of its semicolon are what is told, and none, if that is no number's form.
func wantOdd(t *testing.T, parts []string, more []string, wantTold func(t *testing.T, s string) bool) {
	t.Helper()
	for at, n := range slices.Concat(oddNums(), more) {
		for i, part := range parts {
			_, behind, _ := strings.Cut(part, ";")
			other := slices.Clone(parts)
			other[i] = n + ";" + behind
			s := strings.Join(other, "")
			if wantTold(t, s) && at < forms {
				t.Errorf("%.200q was taken", s)
			}
		}
	}
}

// TestP16_1Odd: in any field's place a number that is odd or too great, or another one that may well be.
func TestP16_1Odd(t *testing.T) {
	more := []string{"0", "1", "2", "3", "4", "5", "6", "7", "8", "10", "16", "32", "64", "1073741823", "1073741824"}
	for _, q := range []api.Req{{Kind: 1}, {Kind: 3, Epoch: 1, Sess: 1, Seq: 1}, begin("t"), begin(""), status(text(16)), op(api.Op{Kind: 1}), op(api.Op{Kind: 2, Key: "a", Val: "1", Lo: "b", Hi: "c", Most: 1}), longestReq()} {
		wantOdd(t, partsOfReq(q), more, wantToldReq)
	}
}

// TestP16_2Odd: the same of replies; Found and Over are 1 or 0, and Rows is how many there are.
func TestP16_2Odd(t *testing.T) {
	more := []string{"0", "1", "2", "3", "15", "16", "32", "64", "1073741823", "1073741824"}
	for _, p := range []api.Reply{{}, {Epoch: 1, Sess: 1, Seq: 1, Err: 1, Val: "v", Found: true, Rows: rows("a", "1"), Over: true}, {Rows: rows("", "", "a", "")}, longestReply()} {
		wantOdd(t, partsOfReply(p), more, wantToldReply)
	}
	for _, n := range []string{"2", "3", "10", "00", "01", "18446744073709551615"} {
		wantTakeReply(t, "0;0;0;0;0;"+n+";0;0;", api.Reply{}, api.ErrForm)
		wantTakeReply(t, "0;0;0;0;0;0;"+n+";0;", api.Reply{}, api.ErrForm)
	}
	for n := range 20 {
		if n != 1 {
			wantTakeReply(t, "0;0;0;0;0;0;0;"+num(n)+"0;0;", api.Reply{}, api.ErrForm)
		}
	}
}

// wantChanged: s without one of its bytes, with each of some bytes between, and with each of them in another's place, is what is told. How many of these were taken?
func wantChanged(t *testing.T, s, others string, wantTold func(t *testing.T, s string) bool) int {
	t.Helper()
	n := 0
	see := func(parts ...string) {
		if wantTold(t, strings.Join(parts, "")) {
			n++
		}
	}
	for i := range len(s) + 1 {
		for j := range len(others) {
			see(s[:i], others[j:j+1], s[i:])
		}
		if i == len(s) {
			break
		}
		see(s[:i], s[i+1:])
		see(s[i+1:])
		for j := range len(others) {
			see(s[:i], others[j:j+1], s[i+1:])
		}
	}
	return n
}

// allBytes are all of them.
func allBytes() string {
	l := make([]byte, 256)
	for i := range l {
		l[i] = byte(i)
	}
	return string(l)
}

// TestP16_1Changed: bytes of requests with one less, one more, or another one.
func TestP16_1Changed(t *testing.T) {
	n := wantChanged(t, toldReq(longestReq()), signs, wantToldReq)
	for _, q := range []api.Req{{Kind: 1}, {Kind: 2, Epoch: 10, Sess: 200, Seq: 1 << 30}, begin("t"), begin("\xff;"), status(""), op(api.Op{Kind: 1, Key: "a"}), op(api.Op{Kind: 4, Lo: "a", Hi: "bb", Most: 10})} {
		n += wantChanged(t, toldReq(q), allBytes(), wantToldReq)
	}
	if n < 1000 {
		t.Errorf("%d were taken", n)
	}
}

// TestP16_2Changed: the same of replies.
func TestP16_2Changed(t *testing.T) {
	n := wantChanged(t, toldReply(longestReply()), signs, wantToldReply)
	for _, p := range []api.Reply{{}, {Epoch: 10, Sess: 200, Seq: 1 << 30, Err: 10, Val: "10"}, {Found: true, Rows: rows("a", "1", "b", "", "\xff", "22"), Over: true}} {
		n += wantChanged(t, toldReply(p), allBytes(), wantToldReply)
	}
	if n < 1000 {
		t.Errorf("%d were taken", n)
	}
}

// anyText is one of at most that many bytes, at times of just so many.
func anyText(r *rand.Rand, most int) string {
	n := r.Intn(most + 1)
	switch r.Intn(4) {
	case 0:
		n = 0
	case 1:
		n = most
	}
	t := make([]byte, n)
	for i := range t {
		t[i] = byte(r.Intn(256))
		if r.Intn(2) == 0 {
			t[i] = signs[r.Intn(len(signs))]
		}
	}
	return string(t)
}

// anyNum is one that may be, of few figures or of many.
func anyNum(r *rand.Rand) int {
	return r.Intn(1<<30+1) >> r.Intn(31)
}

// anyReq is a request that may be.
func anyReq(r *rand.Rand) api.Req {
	q := api.Req{Kind: 1 + r.Intn(6), Epoch: anyNum(r), Sess: anyNum(r), Seq: anyNum(r)}
	switch q.Kind {
	case 4, 6:
		q.Token = anyText(r, 16)
	case 5:
		q.Op = api.Op{Kind: 1 + r.Intn(6), Key: anyText(r, 32), Val: anyText(r, 64), Lo: anyText(r, 32), Hi: anyText(r, 32), Most: anyNum(r)}
	}
	return q
}

// anyReply is a reply that may be.
func anyReply(r *rand.Rand) api.Reply {
	p := api.Reply{Epoch: anyNum(r), Sess: anyNum(r), Seq: anyNum(r), Err: api.Errno(r.Intn(17)), Val: anyText(r, 64), Found: r.Intn(2) == 0, Over: r.Intn(2) == 0}
	keys := map[string]int{}
	for range r.Intn(17) {
		keys[anyText(r, 32)]++
	}
	var l []string
	for k := range keys {
		l = append(l, k)
	}
	slices.Sort(l)
	for _, k := range l {
		p.Rows = append(p.Rows, api.Pair{Key: k, Val: anyText(r, 64)})
	}
	return p
}

// wantWhole: s is taken, but no beginning of it is, nor with a byte more.
func wantWhole(t *testing.T, s string, taken func(s string) bool) {
	t.Helper()
	if !taken(s) {
		t.Fatalf("%.200q wasn't taken", s)
	}
	for i := range len(s) {
		if taken(s[:i]) {
			t.Fatalf("%.200q was taken, a beginning of %.200q", s[:i], s)
		}
	}
	for i, all := 0, allBytes(); i < len(all); i++ {
		if taken(s + all[i:i+1]) {
			t.Fatalf("%.200q was taken with the byte %d behind it", s, i)
		}
	}
}

// takenReq: is it taken as a request? What isn't is ErrForm, and tells nothing.
func takenReq(t *testing.T) func(s string) bool {
	return func(s string) bool {
		q, e := TakeReq(s)
		if e != api.OK && (e != api.ErrForm || q != (api.Req{})) {
			t.Fatalf("%.200q: %#v, %d", s, q, e)
		}
		return e == api.OK
	}
}

// takenReply: is it taken as a reply?
func takenReply(t *testing.T) func(s string) bool {
	return func(s string) bool {
		p, e := TakeReply(s)
		if e != api.OK && (e != api.ErrForm || !alike(p, api.Reply{})) {
			t.Fatalf("%.200q: %#v, %d", s, p, e)
		}
		return e == api.OK
	}
}

// TestP16_3Reqs: what was written is taken as it was, whole, and no two requests have the same bytes.
func TestP16_3Reqs(t *testing.T) {
	r := rand.New(rand.NewSource(16))
	l := reqs()
	for range 3000 {
		l = append(l, anyReq(r))
	}
	whose := map[string]api.Req{}
	for _, q := range l {
		s, e := Req(q)
		if e != api.OK || s != toldReq(q) {
			t.Fatalf("%#v: %.200q, %d", q, s, e)
		}
		if other, is := whose[s]; is && other != q {
			t.Fatalf("%.200q: %#v, and %#v", s, other, q)
		}
		whose[s] = q
		wantTakeReq(t, s, q, api.OK)
		wantWhole(t, s, takenReq(t))
	}
}

// TestP16_3Replies: the same of replies; what was taken is the same as what was written.
func TestP16_3Replies(t *testing.T) {
	r := rand.New(rand.NewSource(163))
	l := replies()
	for range 1000 {
		l = append(l, anyReply(r))
	}
	whose := map[string]api.Reply{}
	for _, p := range l {
		s, e := Reply(p)
		if e != api.OK || s != toldReply(p) || len(s) > api.MaxFrame {
			t.Fatalf("%#v: %.200q, %d", p, s, e)
		}
		if other, is := whose[s]; is && !Same(other, p) {
			t.Fatalf("%.200q: %#v, and %#v", s, other, p)
		}
		whose[s] = p
		if p1, e := TakeReply(s); !Same(p1, p) || !alike(p1, p) || e != api.OK {
			t.Fatalf("%.200q: %#v, %d; want %#v", s, p1, e, p)
		}
		wantWhole(t, s, takenReply(t))
	}
}

// TestP16_3Changes: a request that differs in one field alone has other bytes.
func TestP16_3Changes(t *testing.T) {
	o := op(api.Op{Kind: 2, Key: "1;a", Val: "1;", Lo: "0;", Hi: "a", Most: 1})
	l := []api.Req{o}
	for i := range 9 {
		q := o
		switch i {
		case 0:
			q.Epoch++
		case 1:
			q.Sess++
		case 2:
			q.Seq++
		case 3:
			q.Op.Kind++
		case 4:
			q.Op.Key, q.Op.Val = q.Op.Val, q.Op.Key
		case 5:
			q.Op.Key, q.Op.Val = q.Op.Key+"1;", ""
		case 6:
			q.Op.Lo, q.Op.Hi = q.Op.Hi, q.Op.Lo
		case 7:
			q.Op.Val, q.Op.Lo = q.Op.Val+"0;", ""
		case 8:
			q.Op.Most++
		}
		l = append(l, q)
	}
	for i, a := range l {
		for j, b := range l {
			s, _ := Req(a)
			s1, _ := Req(b)
			if (s == s1) != (i == j) {
				t.Errorf("%#v and %#v: %.200q, %.200q", a, b, s, s1)
			}
		}
	}
}

// TestFaults: a fault tells the field in which it is, the first one that there is.
func TestFaults(t *testing.T) {
	for _, x := range []struct{ s, field string }{
		{"", "Kind"}, {"7;", "Kind"}, {"1", "Kind"}, {"a", "Kind"}, {"1;", "Epoch"}, {"1;1073741825;0;0;0;", "Epoch"}, {"1;0;", "Sess"}, {"1;0;0;x", "Seq"}, {"4;0;0;0;", "Token"}, {"4;0;0;0;1;", "Token"}, {"4;0;0;0;17;" + text(17), "Token"},
		{"5;0;0;0;0;", "Op.Kind"}, {"5;0;0;0;0;7;", "Op.Kind"}, {"5;0;0;0;0;1;33;" + text(33), "Op.Key"}, {"5;0;0;0;0;1;0;65;" + text(65), "Op.Val"}, {"5;0;0;0;0;1;0;0;", "Op.Lo"}, {"5;0;0;0;0;1;0;0;0;a", "Op.Hi"}, {"5;0;0;0;0;1;0;0;0;0;", "Op.Most"},
		{"1;0;0;0;0;0", "end"}, {"5;0;0;0;0;1;0;0;0;0;0;0;", "end"}, {"0;0;0;0;0;", "Req"}, {"1;0;0;0;1;t", "Req"}, {"5;0;0;0;0;0;0;0;0;0;0;", "Req"},
	} {
		_, err := takeReq(x.s)
		wantFault(t, x.s, err, x.field, errOdd)
	}
	for _, x := range []struct{ s, field string }{
		{"", "Epoch"}, {"0;", "Sess"}, {"0;0;-", "Seq"}, {"0;0;0;17;", "Err"}, {"0;0;0;0;65;" + text(65), "Val"}, {"0;0;0;0;0;2;", "Found"}, {"0;0;0;0;0;1;2;", "Over"}, {"0;0;0;0;0;0;0;17;", "Rows"},
		{"0;0;0;0;0;0;0;1;", "Rows.Key"}, {"0;0;0;0;0;0;0;1;1;a", "Rows.Val"}, {"0;0;0;0;0;0;0;2;0;0;x", "Rows.Key"}, {"0;0;0;0;0;0;0;0;;", "end"}, {"0;0;0;0;0;0;0;2;0;0;0;0;", "Reply"},
	} {
		_, err := takeReply(x.s)
		wantFault(t, x.s, err, x.field, errOdd)
	}
	s := text(2049)
	_, err := takeReq(s)
	wantFault(t, s, err, "Req", errLong)
	if _, err := takeReq("1;0;0;0;0;"); err != nil {
		t.Error(err)
	}
}
