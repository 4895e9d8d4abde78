package wire

import (
	"errors"
	"slices"
	"strconv"
	"strings"
	"testing"

	"stanchion/api"
)

// signs are such that short texts of them are numbers, texts, and none.
const signs = "0125;a"

// text is a text of n bytes, in which figures and semicolons stand, so that a piece of it looks like fields.
func text(n int) string {
	return strings.Repeat("1;a0;x20", n/8+1)[:n]
}

// every calls f with all texts of at most n of these signs.
func every(n int, f func(s string)) {
	f("")
	if n == 0 {
		return
	}
	for _, c := range []byte(signs) {
		every(n-1, func(s string) { f(string(c) + s) })
	}
}

// num and field are a number's and a text's bytes, told without a call of the package.
func num(n int) string {
	return strconv.Itoa(n) + ";"
}

func field(t string) string {
	return num(len(t)) + t
}

// yesNo are the bytes of what is so or not.
func yesNo(is bool) string {
	if is {
		return "1;"
	}
	return "0;"
}

// partsOfReq are the bytes of a request's fields, whether it may be or not.
func partsOfReq(q api.Req) []string {
	l := []string{num(q.Kind), num(q.Epoch), num(q.Sess), num(q.Seq), field(q.Token)}
	if q.Kind == 5 {
		l = append(l, num(q.Op.Kind), field(q.Op.Key), field(q.Op.Val), field(q.Op.Lo), field(q.Op.Hi), num(q.Op.Most))
	}
	return l
}

// partsOfReply are the bytes of a reply's fields, whether it may be or not.
func partsOfReply(p api.Reply) []string {
	l := []string{num(p.Epoch), num(p.Sess), num(p.Seq), num(int(p.Err)), field(p.Val), yesNo(p.Found), yesNo(p.Over), num(len(p.Rows))}
	for _, r := range p.Rows {
		l = append(l, field(r.Key), field(r.Val))
	}
	return l
}

// toldReq are a request's bytes, as their words tell them.
func toldReq(q api.Req) string {
	return strings.Join(partsOfReq(q), "")
}

// toldReply are a reply's bytes, as their words tell them.
func toldReply(p api.Reply) string {
	return strings.Join(partsOfReply(p), "")
}

// toldNum: may a number be, as its words tell it?
func toldNum(n int) bool {
	return n >= 0 && n <= 1<<30
}

// toldMayReq: may a request be, as its words tell it?
func toldMayReq(q api.Req) bool {
	may := q.Kind >= 1 && q.Kind <= 6 && toldNum(q.Epoch) && toldNum(q.Sess) && toldNum(q.Seq) && len(q.Token) <= 16
	if q.Kind != 4 && q.Kind != 6 {
		may = may && q.Token == ""
	}
	o := q.Op
	if q.Kind == 5 {
		return may && o.Kind >= 1 && o.Kind <= 6 && len(o.Key) <= 32 && len(o.Val) <= 64 && len(o.Lo) <= 32 && len(o.Hi) <= 32 && toldNum(o.Most)
	}
	return may && o.Kind == 0 && o.Key == "" && o.Val == "" && o.Lo == "" && o.Hi == "" && o.Most == 0
}

// toldMayReply: may a reply be, as its words tell it?
func toldMayReply(p api.Reply) bool {
	may := toldNum(p.Epoch) && toldNum(p.Sess) && toldNum(p.Seq) && p.Err >= 0 && p.Err <= 16 && len(p.Val) <= 64 && len(p.Rows) <= 16
	for i, r := range p.Rows {
		may = may && len(r.Key) <= 32 && len(r.Val) <= 64
		for _, ahead := range p.Rows[:i] {
			may = may && slices.Compare([]byte(ahead.Key), []byte(r.Key)) < 0
		}
	}
	return may
}

// cutNum is the number at the beginning of s, or 0, and what stands behind.
func cutNum(s string) (int, string) {
	front, rest, _ := strings.Cut(s, ";")
	n, _ := strconv.Atoi(front)
	return n, rest
}

// cutText is the text at the beginning of s, and what stands behind, as far as it is there.
func cutText(s string) (string, string) {
	n, rest := cutNum(s)
	n = min(max(n, 0), len(rest))
	return rest[:n], rest[n:]
}

// toldTakeReq takes what looks like a request's bytes off by strconv, and is content if these are the request's very own.
func toldTakeReq(s string) (api.Req, api.Errno) {
	if len(s) > 2048 {
		return api.Req{}, api.ErrBig
	}
	var q api.Req
	var rest string
	q.Kind, rest = cutNum(s)
	q.Epoch, rest = cutNum(rest)
	q.Sess, rest = cutNum(rest)
	q.Seq, rest = cutNum(rest)
	q.Token, rest = cutText(rest)
	if q.Kind == 5 {
		q.Op.Kind, rest = cutNum(rest)
		q.Op.Key, rest = cutText(rest)
		q.Op.Val, rest = cutText(rest)
		q.Op.Lo, rest = cutText(rest)
		q.Op.Hi, rest = cutText(rest)
		q.Op.Most, _ = cutNum(rest)
	}
	if !toldMayReq(q) || toldReq(q) != s {
		return api.Req{}, api.ErrForm
	}
	return q, api.OK
}

// toldTakeReply takes what looks like a reply's bytes off by strconv, and is content if these are the reply's very own.
func toldTakeReply(s string) (api.Reply, api.Errno) {
	var p api.Reply
	var err, found, over, many int
	rest := s
	p.Epoch, rest = cutNum(rest)
	p.Sess, rest = cutNum(rest)
	p.Seq, rest = cutNum(rest)
	err, rest = cutNum(rest)
	p.Val, rest = cutText(rest)
	found, rest = cutNum(rest)
	over, rest = cutNum(rest)
	many, rest = cutNum(rest)
	p.Err, p.Found, p.Over = api.Errno(err), found != 0, over != 0
	for i := 0; i < many && rest != ""; i++ {
		var r api.Pair
		r.Key, rest = cutText(rest)
		r.Val, rest = cutText(rest)
		p.Rows = append(p.Rows, r)
	}
	if !toldMayReply(p) || toldReply(p) != s {
		return api.Reply{}, api.ErrForm
	}
	return p, api.OK
}

// alike: are two replies the same, told without a call of the package?
func alike(a, b api.Reply) bool {
	return fields(a) == fields(b) && slices.Equal(a.Rows, b.Rows)
}

// fields are those of a reply, but its rows.
func fields(p api.Reply) [7]any {
	return [7]any{p.Epoch, p.Sess, p.Seq, p.Err, p.Val, p.Found, p.Over}
}

// spare is what stands in the room behind roomy rows.
var spare = api.Pair{Key: "spare", Val: "spare"}

// roomy is a reply whose rows have room behind them, in which a spare one stands.
func roomy(p api.Reply) api.Reply {
	p.Rows = append(append(make([]api.Pair, 0, len(p.Rows)+1), p.Rows...), spare)[:len(p.Rows)]
	return p
}

// wantUntouched: a roomy reply is as it was, and so is the room behind its rows.
func wantUntouched(t *testing.T, in, was api.Reply) {
	t.Helper()
	if !alike(in, was) || in.Rows[:len(in.Rows)+1][len(in.Rows)] != spare {
		t.Fatalf("what was handed in was %#.300v, and is now %#.300v", was, in)
	}
}

// wantReq: what MayReq and Req tell of a request. The first fault ends the test, here and below: of all short texts there would be thousands.
func wantReq(t *testing.T, q api.Req, s string, e api.Errno) {
	t.Helper()
	if may := MayReq(q); may != (e == api.OK) {
		t.Fatalf("%#.300v may be: %t", q, may)
	}
	if s1, e1 := Req(q); s1 != s || e1 != e {
		t.Fatalf("%#.300v: %.200q, %d; want %.200q, %d", q, s1, e1, s, e)
	}
}

// wantTakeReq: what TakeReq tells of bytes.
func wantTakeReq(t *testing.T, s string, q api.Req, e api.Errno) {
	t.Helper()
	if q1, e1 := TakeReq(s); q1 != q || e1 != e {
		t.Fatalf("%.200q (%d bytes): %#v, %d; want %#v, %d", s, len(s), q1, e1, q, e)
	}
}

// wantToldReq: what TakeReq tells of bytes is what is told. Was there a request?
func wantToldReq(t *testing.T, s string) bool {
	t.Helper()
	q, e := toldTakeReq(s)
	wantTakeReq(t, s, q, e)
	return e == api.OK
}

// wantReply: what Reply tells of a reply, which it doesn't write into.
func wantReply(t *testing.T, p api.Reply, s string, e api.Errno) {
	t.Helper()
	in := roomy(p)
	if s1, e1 := Reply(in); s1 != s || e1 != e {
		t.Fatalf("%#.300v: %.200q, %d; want %.200q, %d", p, s1, e1, s, e)
	}
	wantUntouched(t, in, p)
}

// wantTakeReply: what TakeReply tells of bytes; the same, and in a list of its own, when it is asked again.
func wantTakeReply(t *testing.T, s string, p api.Reply, e api.Errno) {
	t.Helper()
	for range 2 {
		p1, e1 := TakeReply(s)
		if !alike(p1, p) || e1 != e {
			t.Fatalf("%.200q (%d bytes): %#v, %d; want %#v, %d", s, len(s), p1, e1, p, e)
		}
		for i := range p1.Rows {
			p1.Rows[i] = spare
		}
	}
}

// wantToldReply: what TakeReply tells of bytes is what is told. Was there a reply?
func wantToldReply(t *testing.T, s string) bool {
	t.Helper()
	p, e := toldTakeReply(s)
	wantTakeReply(t, s, p, e)
	return e == api.OK
}

// wantFault: bytes that can't be taken have that fault in that field.
func wantFault(t *testing.T, s string, err error, field string, within error) {
	t.Helper()
	var f fault
	if !errors.As(err, &f) || f.field != field || !errors.Is(err, within) || errors.Is(errOdd, within) != errors.Is(err, errOdd) {
		t.Errorf("%.200q: %v; want %v of %s", s, err, within, field)
	}
}
