package wire

import (
	"math"
	"strings"
	"testing"

	"stanchion/api"
)

// numsThatMay are numbers that may be, to the last one.
func numsThatMay() []int {
	return []int{0, 1, 9, 10, 255, 65536, 1<<30 - 1, 1 << 30}
}

// numsThatMayNot are others.
func numsThatMayNot() []int {
	return []int{-1, -2, -1 << 30, math.MinInt32, math.MinInt, math.MinInt + 1, 1<<30 + 1, 1 << 31, 1<<32 - 1, 1 << 32, 1<<32 + 1, math.MaxInt - 1, math.MaxInt}
}

// begin, status and op are requests.
func begin(token string) api.Req {
	return api.Req{Kind: 4, Epoch: 1, Sess: 2, Seq: 3, Token: token}
}

func status(token string) api.Req {
	return api.Req{Kind: 6, Token: token}
}

func op(o api.Op) api.Req {
	return api.Req{Kind: 5, Epoch: 1, Sess: 2, Seq: 3, Op: o}
}

// numbered are requests of a kind, each of whose numbers is one of these in turn.
func numbered(q api.Req, l []int) []api.Req {
	var all []api.Req
	for _, n := range l {
		a, b, c := q, q, q
		a.Epoch, b.Sess, c.Seq = n, n, n
		all = append(all, a, b, c)
	}
	return all
}

// reqs are requests that may be: of all kinds, of no token and of the longest, of all operations, whatever these ask for, with the longest texts and the greatest numbers.
func reqs() []api.Req {
	var l []api.Req
	for kind := 1; kind <= 6; kind++ {
		q := api.Req{Kind: kind}
		if kind == 5 {
			q.Op.Kind = 1
		}
		l = append(l, numbered(q, numsThatMay())...)
	}
	for _, token := range []string{"", "t", ";", "0;", "4;1;2;3;1;t", "\x00", "\xff", "ä", text(15), text(16), strings.Repeat("\x80", 16)} {
		l = append(l, begin(token), status(token))
	}
	for kind := 1; kind <= 6; kind++ {
		l = append(l, op(api.Op{Kind: kind}), op(api.Op{Kind: kind, Key: "k", Val: "v", Lo: "l", Hi: "h", Most: 7}))
		for _, n := range numsThatMay() {
			l = append(l, op(api.Op{Kind: kind, Most: n}))
		}
		for _, t := range []string{"a", ";", "0;", "1;1;a", "\x00", "\xff\xff", text(31), text(32), strings.Repeat("\x80", 32)} {
			l = append(l, op(api.Op{Kind: kind, Key: t}), op(api.Op{Kind: kind, Val: t}), op(api.Op{Kind: kind, Lo: t}), op(api.Op{Kind: kind, Hi: t}))
		}
	}
	for _, t := range []string{text(33), text(63), text(64), strings.Repeat("\xff", 64)} {
		l = append(l, op(api.Op{Kind: 2, Val: t}))
	}
	return append(l, longestReq(), op(api.Op{Kind: 4, Lo: "b", Hi: "a"}), op(api.Op{Kind: 4, Lo: "a", Most: 3}))
}

// longestReq is one whose bytes are the most.
func longestReq() api.Req {
	return api.Req{Kind: 5, Epoch: 1 << 30, Sess: 1 << 30, Seq: 1 << 30, Op: api.Op{Kind: 6, Key: text(32), Val: text(64), Lo: text(32), Hi: text(32), Most: 1 << 30}}
}

// badReqs are requests that may not be, each by one fault, but the last ones, which have several.
func badReqs() []api.Req {
	var l []api.Req
	for _, n := range append(numsThatMayNot(), 0, 7, 8, 16, 255, 256+1) {
		if n != 0 {
			l = append(l, api.Req{Kind: n})
		}
		l = append(l, api.Req{}, op(api.Op{Kind: n}), op(api.Op{Kind: n, Key: "k"}))
	}
	for kind := 1; kind <= 6; kind++ {
		q := api.Req{Kind: kind}
		if kind == 5 {
			q.Op.Kind = 1
		}
		l = append(l, numbered(q, numsThatMayNot())...)
		for _, token := range []string{"t", "\x00", text(16), text(17), text(18), text(2048), text(70000)} {
			q.Token = token
			if kind != 4 && kind != 6 || len(token) > 16 {
				l = append(l, q)
			}
		}
		if kind != 5 {
			l = append(l, withOps(kind)...)
		}
	}
	for kind := 1; kind <= 6; kind++ {
		for _, n := range numsThatMayNot() {
			l = append(l, op(api.Op{Kind: kind, Most: n}))
		}
		for _, t := range []string{text(33), text(34), text(64), text(65), strings.Repeat("\xff", 33), strings.Repeat("ä", 17), text(70000)} {
			l = append(l, op(api.Op{Kind: kind, Key: t}), op(api.Op{Kind: kind, Lo: t}), op(api.Op{Kind: kind, Hi: t}), op(api.Op{Kind: kind, Val: text(64) + t}))
		}
		l = append(l, op(api.Op{Kind: kind, Val: text(65)}))
	}
	return append(l, api.Req{Kind: 7, Epoch: -1, Token: "t"}, api.Req{Kind: 5, Token: "t"}, api.Req{Kind: -1, Op: api.Op{Kind: 7}})
}

// withOps are requests of a kind that has no operation, each with a piece of one.
func withOps(kind int) []api.Req {
	var l []api.Req
	for _, o := range []api.Op{{Kind: 1}, {Kind: 5}, {Kind: -1}, {Key: "a"}, {Val: "a"}, {Lo: "\x00"}, {Hi: "a"}, {Most: 1}, {Most: -1}, {Kind: 2, Key: "a", Val: "1"}} {
		l = append(l, api.Req{Kind: kind, Op: o})
	}
	return l
}

// TestP16_1Example: the chapter's, and another one.
func TestP16_1Example(t *testing.T) {
	wantReq(t, begin("t"), "4;1;2;3;1;t", api.OK)
	wantTakeReq(t, "4;1;2;3;1;t", begin("t"), api.OK)
	o := op(api.Op{Kind: api.OPut, Key: "a", Val: "12", Lo: "l", Hi: "hi", Most: 8})
	wantReq(t, o, "5;1;2;3;0;2;1;a2;121;l2;hi8;", api.OK)
	wantTakeReq(t, "5;1;2;3;0;2;1;a2;121;l2;hi8;", o, api.OK)
	wantReq(t, api.Req{Kind: api.ROpen}, "1;0;0;0;0;", api.OK)
	wantTakeReq(t, "1;0;0;0;0;", api.Req{Kind: api.ROpen}, api.OK)
}

// TestP16_1Req: requests that may be, there and back.
func TestP16_1Req(t *testing.T) {
	for _, q := range reqs() {
		wantReq(t, q, toldReq(q), api.OK)
		wantTakeReq(t, toldReq(q), q, api.OK)
	}
}

// TestP16_1ReqWrong: requests that may not be; what would be their bytes isn't taken.
func TestP16_1ReqWrong(t *testing.T) {
	for _, q := range badReqs() {
		wantReq(t, q, "", api.ErrArg)
		s := toldReq(q)
		// Of a Kind that has no operation the bytes tell none, whatever it is.
		if q.Kind != 5 && q.Op != (api.Op{}) {
			wantToldReq(t, s)
			continue
		}
		e := api.ErrForm
		if len(s) > 2048 {
			e = api.ErrBig
		}
		wantTakeReq(t, s, api.Req{}, e)
	}
}

// TestP16_1Big: bytes above the bound, whatever they are, and such as are just not.
func TestP16_1Big(t *testing.T) {
	for _, front := range []string{"", "1;0;0;0;0;", "4;1;2;3;1;t", "4;1;2;3;3000;", "\xff", ";", toldReq(longestReq())} {
		for _, n := range []int{2046, 2047, 2048, 2049, 2050, 4096, 70000} {
			for _, fill := range []string{"0", "1", "a", ";", "\x00"} {
				s := front + strings.Repeat(fill, n-len(front))
				e := api.ErrForm
				if n > 2048 {
					e = api.ErrBig
				}
				wantTakeReq(t, s, api.Req{}, e)
			}
		}
	}
}

// rows is a row of pairs.
func rows(l ...string) []api.Pair {
	var p []api.Pair
	for i := 0; i < len(l); i += 2 {
		p = append(p, api.Pair{Key: l[i], Val: l[i+1]})
	}
	return p
}

// rising are n pairs whose keys rise, the longest there are.
func rising(n int) []api.Pair {
	var l []api.Pair
	for i := range n {
		l = append(l, api.Pair{Key: text(31) + string([]byte{byte(i * 9)}), Val: text(64)})
	}
	return l
}

// replies are such that may be: with all errors, the greatest numbers, the longest texts, with no row and with many.
func replies() []api.Reply {
	var l []api.Reply
	for _, n := range numsThatMay() {
		l = append(l, api.Reply{Epoch: n}, api.Reply{Sess: n}, api.Reply{Seq: n}, api.Reply{Epoch: n, Sess: n, Seq: n})
	}
	for e := range 17 {
		l = append(l, api.Reply{Err: api.Errno(e)}, api.Reply{Epoch: 1, Sess: 2, Seq: 3, Err: api.Errno(e), Val: "v", Found: true, Rows: rows("a", "1"), Over: true})
	}
	for _, v := range []string{"", "v", ";", "0;", "\x00", "\xff", "1;2;3;0;0;0;0;0;", text(63), text(64), strings.Repeat("\xff", 64)} {
		for i := range 4 {
			l = append(l, api.Reply{Val: v, Found: i&1 == 1, Over: i&2 == 2})
		}
		l = append(l, api.Reply{Rows: rows("a", v)}, api.Reply{Rows: rows("", v, "b", "")})
	}
	for _, r := range [][]api.Pair{
		rows("", ""), rows("a", ""), rows("", "", "a", ""), rows("a", "1", "b", "2"), rows("a", "1", "a\x00", "1", "aa", "1", "b", "0"), rows("A", "", "a", ""), rows("10", "", "9", ""),
		rows("z", "", "\x80", "", "\xff", "", "\xff\xff", ""), rows("0;", "1;1;a", "1;", "0;0;", ";", ""), rows(text(31), text(63)), rows(text(32), text(64)), rows(strings.Repeat("\xff", 32), strings.Repeat("\x80", 64)),
		rising(2), rising(9), rising(10), rising(11), rising(15), rising(16),
	} {
		l = append(l, api.Reply{Rows: r}, api.Reply{Epoch: 9, Found: true, Rows: r})
	}
	return append(l, longestReply())
}

// longestReply is one whose bytes are the most.
func longestReply() api.Reply {
	return api.Reply{Epoch: 1 << 30, Sess: 1 << 30, Seq: 1 << 30, Err: 16, Val: text(64), Found: true, Rows: rising(16), Over: true}
}

// badReplies are such that may not be, each by one fault, but the last ones, which have several.
func badReplies() []api.Reply {
	var l []api.Reply
	for _, n := range numsThatMayNot() {
		l = append(l, api.Reply{Epoch: n}, api.Reply{Sess: n}, api.Reply{Seq: n}, api.Reply{Err: api.Errno(n)}, api.Reply{Epoch: 1, Sess: n, Seq: 1, Rows: rows("a", "1")})
	}
	for _, n := range []int{17, 18, 99, 256, 1 << 16, 1 << 30} {
		l = append(l, api.Reply{Err: api.Errno(n)})
	}
	for _, v := range []string{text(65), text(66), strings.Repeat("ä", 33), text(2048), text(70000)} {
		l = append(l, api.Reply{Val: v}, api.Reply{Rows: rows("a", v)}, api.Reply{Rows: rows("a", "", "b", v)}, api.Reply{Rows: rows("a", v, "b", "")}, api.Reply{Rows: rows(v, "")})
	}
	for _, k := range []string{text(33), text(34), strings.Repeat("\xff", 33), strings.Repeat("ä", 17)} {
		l = append(l, api.Reply{Rows: rows(k, "")}, api.Reply{Rows: rows("", "", k, "")}, api.Reply{Rows: rows(k, "", "\xff\xff", "")}, api.Reply{Rows: append(rows("\x00", ""), api.Pair{Key: "0" + k})})
	}
	for _, r := range [][]api.Pair{
		rising(17), rising(18), rising(28),
		rows("a", "1", "a", "1"), rows("a", "1", "a", "2"), rows("", "", "", ""), rows("b", "", "a", ""), rows("a", "", "b", "", "a", ""), rows("a", "", "c", "", "b", ""), rows("b", "", "c", "", "a", ""), rows("c", "", "b", "", "a", ""),
		rows("a", "", "b", "", "b", ""), rows("aa", "", "a", ""), rows("a", "", "A", ""), rows("9", "", "10", ""), rows("\x80", "", "z", ""), rows("\xff", "", "ä", ""),
	} {
		l = append(l, api.Reply{Rows: r}, api.Reply{Epoch: 9, Over: true, Rows: r})
	}
	return append(l, api.Reply{Epoch: -1, Err: 17, Val: text(65), Rows: rows("b", "", "a", text(65))}, api.Reply{Err: -1, Rows: rising(17)})
}

// TestP16_2Example: replies told sign by sign.
func TestP16_2Example(t *testing.T) {
	p := api.Reply{Epoch: 1, Sess: 2, Seq: 3, Err: api.ErrLock, Val: "v", Found: true, Rows: rows("a", "1", "b", ""), Over: true}
	wantReply(t, p, "1;2;3;13;1;v1;1;2;1;a1;11;b0;", api.OK)
	wantTakeReply(t, "1;2;3;13;1;v1;1;2;1;a1;11;b0;", p, api.OK)
	wantReply(t, api.Reply{Found: true, Rows: []api.Pair{}}, "0;0;0;0;0;1;0;0;", api.OK)
	wantTakeReply(t, "0;0;0;0;0;1;0;0;", api.Reply{Found: true}, api.OK)
	wantTakeReply(t, "0;0;0;0;0;0;1;0;", api.Reply{Over: true}, api.OK)
	wantTakeReply(t, "0;0;0;0;0;0;0;0;", api.Reply{}, api.OK)
}

// TestP16_2Reply: replies that may be, there and back.
func TestP16_2Reply(t *testing.T) {
	for _, p := range replies() {
		wantReply(t, p, toldReply(p), api.OK)
		wantTakeReply(t, toldReply(p), p, api.OK)
	}
}

// TestP16_2ReplyWrong: replies that may not be; what would be their bytes isn't taken.
func TestP16_2ReplyWrong(t *testing.T) {
	for _, p := range badReplies() {
		wantReply(t, p, "", api.ErrArg)
		wantTakeReply(t, toldReply(p), api.Reply{}, api.ErrForm)
	}
}

// TestP16_2Place: of many rows any one is at fault.
func TestP16_2Place(t *testing.T) {
	for at := range 16 {
		for fault := range 4 {
			p := api.Reply{Rows: rising(16)}
			r := &p.Rows[at]
			switch fault {
			case 0:
				r.Val = text(65)
			case 1:
				r.Key += "x"
			case 2:
				r.Key = p.Rows[(at+15)%16].Key
			case 3:
				r.Key, p.Rows[(at+1)%16].Key = p.Rows[(at+1)%16].Key, r.Key
			}
			wantReply(t, p, "", api.ErrArg)
			wantTakeReply(t, toldReply(p), api.Reply{}, api.ErrForm)
		}
	}
}

// TestP16_2Long: bytes of no bound of their own: the longest ones are none of a reply.
func TestP16_2Long(t *testing.T) {
	for _, n := range []int{2048, 2049, 4096, 70000, 1 << 20} {
		for _, fill := range []string{"0", "9", "a", ";", "0;", "\x00"} {
			for _, p := range []string{"", toldReply(api.Reply{}), toldReply(longestReply()), "0;0;0;0;0;0;0;16;"} {
				wantTakeReply(t, (p + strings.Repeat(fill, n))[:n], api.Reply{}, api.ErrForm)
			}
		}
	}
	s := "0;0;0;0;1048576;" + text(1<<20) + "0;0;0;"
	wantTakeReply(t, s, api.Reply{}, api.ErrForm)
	wantTakeReply(t, "0;0;0;0;0;0;0;1000000;"+strings.Repeat("0;0;", 1000000), api.Reply{}, api.ErrForm)
}

// TestP16_2Same: replies that are the same, and such as differ in one thing.
func TestP16_2Same(t *testing.T) {
	all := []api.Reply{
		{}, {Epoch: 1}, {Sess: 1}, {Seq: 1}, {Err: 1}, {Val: "1"}, {Found: true}, {Over: true}, {Found: true, Over: true},
		{Epoch: -1}, {Sess: math.MinInt}, {Seq: math.MaxInt}, {Err: 17}, {Err: -1}, {Epoch: 1 << 32}, {Epoch: 2, Sess: 1}, {Epoch: 1, Sess: 2}, {Sess: 2, Seq: 1}, {Sess: 1, Seq: 2},
		{Val: text(64)}, {Val: text(65)}, {Val: "\xff"}, {Val: "\xfe"}, {Val: "a"}, {Val: "A"},
		{Rows: rows("", "")}, {Rows: rows("a", "")}, {Rows: rows("", "a")}, {Rows: rows("a", "1")}, {Rows: rows("a", "2")}, {Rows: rows("b", "1")}, {Rows: rows("a1", "")},
		{Rows: rows("a", "1", "b", "2")}, {Rows: rows("b", "2", "a", "1")}, {Rows: rows("a", "1", "b", "3")}, {Rows: rows("a", "1", "c", "2")}, {Rows: rows("a", "1", "a", "1")}, {Rows: rows("", "", "", "")},
		{Rows: rising(16)}, {Rows: rising(17)}, {Val: "1", Rows: rows("a", "1")}, {Over: true, Rows: rows("a", "1")}, {Epoch: 1, Sess: 1, Seq: 1, Err: 1, Val: "1", Found: true, Rows: rows("a", "1"), Over: true},
	}
	for i, a := range all {
		for j, b := range all {
			in, in1 := roomy(a), roomy(b)
			if Same(in, in1) != (i == j) {
				t.Errorf("%#v and %#v: %t", a, b, i != j)
			}
			wantUntouched(t, in, a)
			wantUntouched(t, in1, b)
		}
	}
	none := api.Reply{Rows: []api.Pair{}}
	if !Same(none, api.Reply{}) || !Same(api.Reply{}, none) || Same(none, api.Reply{Rows: rows("", "")}) {
		t.Error("lists without elements are the same, nil or not")
	}
}
