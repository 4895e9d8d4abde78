package session

import (
	"math"
	"testing"

	"stanchion/api"
)

// The greatest and the least number that an int holds.
const (
	top    = math.MaxInt
	bottom = math.MinInt
)

// crowd are sessions some of which have an Id or a transaction twice, with an alarm for each Id but 5.
func crowd() api.Sessions {
	l := list(bound(idle(2, 4, "two"), 9, 3), bound(busy(3, 1), 0, 1), bound(idle(2, 6, "again"), 8, 1), bound(busy(4, 2), 9, 2), bound(idle(5, 0, ""), -1, 0))
	return some(l, dues(due(10, 3), due(12, 2), due(11, 4)), 6, 5)
}

// TestP17_1New: of any epoch, Next is 1, and there is nothing else.
func TestP17_1New(t *testing.T) {
	for _, epoch := range []int{1, 7, 0, -3, 1<<30 + 1, top, bottom} {
		want := api.Sessions{Epoch: epoch, Next: 1}
		if s := New(epoch); !alike(s, want) {
			t.Errorf("New of %d: %s", epoch, brief(s))
		}
	}
}

// TestP17_1Find: the first one of an Id.
func TestP17_1Find(t *testing.T) {
	s := crowd()
	for _, x := range []struct {
		id int
		at int
	}{{2, 0}, {3, 1}, {4, 3}, {5, 4}} {
		wantFind(t, s, x.id, s.L[x.at], true)
	}
	for _, id := range []int{0, 1, 6, -2, top, bottom} {
		wantFind(t, s, id, api.Session{}, false)
	}
	wantFind(t, New(7), 1, api.Session{}, false)
	wantFind(t, New(7), 0, api.Session{}, false)
	// Any number is an Id.
	odd := some(list(idle(0, 3, "none"), idle(bottom, 1, "least"), idle(top, 2, "")), nil, 1, 0)
	wantFind(t, odd, 0, odd.L[0], true)
	wantFind(t, odd, bottom, odd.L[1], true)
	wantFind(t, odd, top, odd.L[2], true)
}

// TestP17_1Of: the first one of a transaction, but of 0, which is none.
func TestP17_1Of(t *testing.T) {
	s := crowd()
	for _, x := range []struct {
		txn int
		at  int
	}{{9, 0}, {8, 2}, {-1, 4}} {
		wantOf(t, s, x.txn, s.L[x.at], true)
	}
	for _, txn := range []int{0, 1, 2, 10, top, bottom} {
		wantOf(t, s, txn, api.Session{}, false)
	}
	wantOf(t, New(7), 1, api.Session{}, false)
	wantOf(t, New(7), 0, api.Session{}, false)
}

// TestP17_1Same: each field counts, and the order of the lists.
func TestP17_1Same(t *testing.T) {
	s := crowd()
	wantSame(t, s, crowd(), true)
	wantSame(t, api.Sessions{}, api.Sessions{L: list(), H: dues()}, true)
	for i, change := range []func(k *api.Sessions){
		func(k *api.Sessions) { k.Epoch++ },
		func(k *api.Sessions) { k.Next-- },
		func(k *api.Sessions) { k.Now++ },
		func(k *api.Sessions) { k.Now += 1 << 63 },
		func(k *api.Sessions) { k.L[1].Id++ },
		func(k *api.Sessions) { k.L[1].Seq++ },
		func(k *api.Sessions) { k.L[1].Busy = false },
		func(k *api.Sessions) { k.L[0].Last += "\x00" },
		func(k *api.Sessions) { k.L[4].Txn = 1 },
		func(k *api.Sessions) { k.L[4].Conn = 1 },
		func(k *api.Sessions) { k.L = k.L[:4] },
		func(k *api.Sessions) { k.L = k.L[1:] },
		func(k *api.Sessions) { k.L = nil },
		func(k *api.Sessions) { k.L = append(k.L, api.Session{}) },
		func(k *api.Sessions) { k.L[0], k.L[2] = k.L[2], k.L[0] },
		func(k *api.Sessions) { k.H[2].At++ },
		func(k *api.Sessions) { k.H[2].Id++ },
		func(k *api.Sessions) { k.H = k.H[:2] },
		func(k *api.Sessions) { k.H = nil },
		func(k *api.Sessions) { k.H = append(k.H, api.Alarm{}) },
		func(k *api.Sessions) { k.H[1], k.H[2] = k.H[2], k.H[1] },
	} {
		k := crowd()
		change(&k)
		if Same(k, s) || Same(s, k) {
			t.Errorf("%d: the same are %s and\n%s", i, brief(s), brief(k))
		}
		wantSame(t, s, k, false)
		wantSame(t, k, k, true)
	}
}

// TestP17_2Open: the next number, behind all, and its lease.
func TestP17_2Open(t *testing.T) {
	first := some(list(bound(idle(1, 0, ""), 0, 4)), dues(due(20, 1)), 2, 0)
	wantOpen(t, New(7), 4, first, 1, api.OK)
	second := some(list(first.L[0], bound(idle(2, 0, ""), 0, -1)), dues(due(20, 1), due(20, 2)), 3, 0)
	wantOpen(t, first, -1, second, 2, api.OK)
	// It rises in the heap, if the others are due later.
	late := some(first.L, dues(due(90, 1)), 2, 30)
	wantOpen(t, late, 0, some(list(first.L[0], idle(2, 0, "")), dues(due(50, 2), due(90, 1)), 3, 30), 2, api.OK)
	// One may stand there of that number, and alarms of it: these are dropped.
	there := some(list(busy(3, 9)), dues(due(5, 3), due(6, 1), due(7, 3)), 3, 1)
	wantOpen(t, there, 2, some(list(busy(3, 9), bound(idle(3, 0, ""), 0, 2)), dues(due(6, 1), due(21, 3)), 4, 1), 3, api.OK)
	// Any number that isn't above the greatest is given.
	for _, next := range []int{0, -1, bottom, api.MaxNum - 1, api.MaxNum} {
		wantOpen(t, some(nil, nil, next, 9), 1, some(list(bound(idle(next, 0, ""), 0, 1)), dues(due(29, next)), next+1, 9), next, api.OK)
	}
}

// full are so many sessions.
func full(n, next int) api.Sessions {
	s := some(nil, dues(due(3, 1)), next, 2)
	for i := range n {
		s.L = append(s.L, idle(i+1, 0, ""))
	}
	return s
}

// TestP17_2OpenNot: there is no place for a seventh, no number above the greatest.
func TestP17_2OpenNot(t *testing.T) {
	for _, n := range []int{6, 7, 50} {
		for _, next := range []int{7, api.MaxNum + 1} {
			s := full(n, next)
			wantOpen(t, s, 3, s, 0, api.ErrBusy)
		}
	}
	for _, next := range []int{api.MaxNum + 1, top} {
		for _, n := range []int{0, 5} {
			s := full(n, next)
			wantOpen(t, s, 3, s, 0, api.ErrBig)
		}
	}
	s := full(5, api.MaxNum)
	want := some(append(full(5, 0).L, idle(api.MaxNum, 0, "")), dues(due(3, 1), due(22, api.MaxNum)), api.MaxNum+1, 2)
	wantOpen(t, s, 0, want, api.MaxNum, api.OK)
	wantOpen(t, want, 0, want, 0, api.ErrBusy)
}

// TestP17_2Renew: one's alarms are dropped, and another one is put.
func TestP17_2Renew(t *testing.T) {
	s := crowd()
	wantChange(t, s, renew(3), with(s, s.L, dues(due(11, 4), due(12, 2), due(25, 3))), api.OK)
	wantChange(t, s, renew(2), with(s, s.L, dues(due(10, 3), due(11, 4), due(25, 2))), api.OK)
	wantChange(t, s, renew(4), with(s, s.L, dues(due(10, 3), due(12, 2), due(25, 4))), api.OK)
	// No alarm was there.
	wantChange(t, s, renew(5), with(s, s.L, dues(due(10, 3), due(12, 2), due(11, 4), due(25, 5))), api.OK)
	// Many were.
	many := with(s, s.L, dues(due(1, 2), due(2, 2), due(3, 5), due(4, 2)))
	wantChange(t, many, renew(2), with(s, s.L, dues(due(3, 5), due(25, 2))), api.OK)
	for _, id := range []int{0, 1, 6, -2, top, bottom} {
		wantChange(t, s, renew(id), s, api.ErrNone)
	}
	// An alarm alone is no session.
	only := with(s, nil, dues(due(10, 3)))
	wantChange(t, only, renew(3), only, api.ErrNone)
	// Of what is no heap one is made.
	odd := with(s, s.L, dues(due(30, 3), due(12, 2), due(11, 4)))
	wantChange(t, odd, renew(5), with(s, s.L, dues(due(11, 4), due(25, 5), due(12, 2), due(30, 3))), api.OK)
}

// TestP17_2Until: how far a lease goes, up to the greatest time, by Open, Renew and Take.
func TestP17_2Until(t *testing.T) {
	const last = math.MaxUint64
	for _, x := range []struct{ now, until uint64 }{
		{0, 20}, {1, 21}, {math.MaxInt64, math.MaxInt64 + 20}, {last - 21, last - 1}, {last - 20, last}, {last - 19, last}, {last - 1, last}, {last, last},
	} {
		s := some(nil, nil, 1, x.now)
		opened := some(list(idle(1, 0, "")), dues(due(x.until, 1)), 2, x.now)
		wantOpen(t, s, 0, opened, 1, api.OK)
		old := with(opened, opened.L, dues(due(3, 1)))
		wantChange(t, old, renew(1), opened, api.OK)
		wantChange(t, old, take(1, 0), with(opened, list(busy(1, 1)), opened.H), api.OK)
	}
}

// TestP17_2Close: all of an Id go, and all its alarms.
func TestP17_2Close(t *testing.T) {
	s := crowd()
	l := s.L
	wantChange(t, s, shut(2), with(s, list(l[1], l[3], l[4]), dues(due(10, 3), due(11, 4))), api.OK)
	wantChange(t, s, shut(3), with(s, list(l[0], l[2], l[3], l[4]), dues(due(11, 4), due(12, 2))), api.OK)
	wantChange(t, s, shut(5), with(s, l[:4], s.H), api.OK)
	alone := some(list(busy(1, 1)), dues(due(4, 1), due(9, 1)), 2, 3)
	wantChange(t, alone, shut(1), some(nil, nil, 2, 3), api.OK)
	for _, id := range []int{0, 1, 6, -2, top, bottom} {
		wantChange(t, s, shut(id), s, api.ErrNone)
	}
	only := with(s, nil, dues(due(10, 3)))
	wantChange(t, only, shut(3), only, api.ErrNone)
}

// TestP17_3Judge: of a session whose last request is answered, or isn't, any number.
func TestP17_3Judge(t *testing.T) {
	for _, x := range []struct {
		x    api.Session
		seq  int
		last string
		e    api.Errno
	}{
		{idle(1, 0, ""), 1, "", api.OK},
		{idle(1, 0, ""), 2, "", api.ErrSeq},
		{idle(1, 0, ""), 0, "", api.ErrSeq},
		{idle(1, 0, "x"), 0, "", api.ErrSeq},
		{idle(1, 0, ""), -1, "", api.ErrSeq},
		{busy(1, 0), 1, "", api.ErrBusy},
		{busy(1, 0), 0, "", api.ErrSeq},
		{idle(1, 1, "x"), 1, "x", api.ErrThere},
		{idle(1, 1, ""), 1, "", api.ErrThere},
		{idle(1, 1, "x"), 2, "", api.OK},
		{idle(1, 1, "x"), 3, "", api.ErrSeq},
		{idle(1, 1, "x"), 0, "", api.ErrSeq},
		{busy(1, 1), 1, "", api.ErrWait},
		{busy(1, 1), 2, "", api.ErrBusy},
		{busy(1, 1), 3, "", api.ErrSeq},
		{busy(1, 1), 0, "", api.ErrSeq},
		{busy(1, 1), -1, "", api.ErrSeq},
		{idle(1, 5, "x"), 4, "", api.ErrSeq},
		{idle(1, 5, "x"), 1, "", api.ErrSeq},
		{busy(1, 5), 4, "", api.ErrSeq},
		// What is Last beside Busy isn't told.
		{api.Session{Id: 1, Seq: 3, Busy: true, Last: "x"}, 3, "", api.ErrWait},
		{api.Session{Id: 1, Seq: 3, Busy: true, Last: "x"}, 4, "", api.ErrBusy},
		// Numbers below 1, whatever the session's is.
		{idle(1, -1, "x"), -1, "", api.ErrSeq},
		{idle(1, -1, "x"), 0, "", api.ErrSeq},
		{idle(1, -2, "x"), 1, "", api.ErrSeq},
		{busy(1, -3), -3, "", api.ErrSeq},
		{idle(1, bottom, "x"), bottom, "", api.ErrSeq},
		{idle(1, bottom, "x"), bottom + 1, "", api.ErrSeq},
		{idle(1, bottom, "x"), top, "", api.ErrSeq},
		{busy(1, bottom), 1, "", api.ErrSeq},
		// The greatest number has none behind it, and nothing goes round.
		{idle(1, top, "x"), top, "x", api.ErrThere},
		{busy(1, top), top, "", api.ErrWait},
		{idle(1, top, "x"), bottom, "", api.ErrSeq},
		{idle(1, top, "x"), top - 1, "", api.ErrSeq},
		{idle(1, top-1, "x"), top, "", api.OK},
		{busy(1, top-1), top, "", api.ErrBusy},
		// No bound is asked here.
		{idle(1, api.MaxNum, "x"), api.MaxNum + 1, "", api.OK},
		{idle(1, api.MaxNum, "x"), api.MaxNum, "x", api.ErrThere},
	} {
		wantJudge(t, some(list(x.x), nil, 2, 0), req(1, x.seq), x.last, x.e)
		// The first one of an Id is the session.
		wantJudge(t, some(list(busy(2, 1), x.x, idle(1, x.seq, "no")), nil, 2, 0), req(1, x.seq), x.last, x.e)
	}
}

// TestP17_3JudgeNot: the epoch is asked first, then the session, then the number.
func TestP17_3JudgeNot(t *testing.T) {
	s := crowd()
	for _, q := range []api.Req{
		{Epoch: 6, Sess: 2, Seq: 4}, {Epoch: 8, Sess: 2, Seq: 5}, {Epoch: 0, Sess: 3, Seq: 1}, {Epoch: -7, Sess: 3, Seq: 2},
		{Epoch: 6, Sess: 1, Seq: 1}, {Epoch: 8, Sess: 2, Seq: 0}, {Epoch: 8, Sess: 1, Seq: -1}, {Epoch: 7 + 1<<32, Sess: 2, Seq: 4},
	} {
		wantJudge(t, s, q, "", api.ErrStale)
	}
	for _, q := range []api.Req{req(1, 1), req(0, 1), req(6, 0), req(-2, 4), req(2+1<<32, 4), req(0, 0)} {
		wantJudge(t, s, q, "", api.ErrNone)
	}
	wantJudge(t, New(7), req(0, 1), "", api.ErrNone)
	// Nothing else of a request counts, nor of the sessions.
	q := api.Req{Kind: 99, Epoch: 7, Sess: 2, Seq: 4, Token: "t", Op: api.Op{Kind: -1, Key: "k"}}
	wantJudge(t, s, q, "two", api.ErrThere)
	s.H, s.Next, s.Now = nil, 1, 999
	wantJudge(t, s, q, "two", api.ErrThere)
	s.Epoch = bottom
	wantJudge(t, s, api.Req{Epoch: bottom, Sess: 2, Seq: 5}, "", api.OK)
}

// TestP17_4Take: the next number, no answer yet, another connection, a lease anew.
func TestP17_4Take(t *testing.T) {
	s := crowd()
	l := s.L
	renewed := dues(due(10, 3), due(11, 4), due(25, 2))
	wantChange(t, s, take(2, 5), with(s, list(bound(busy(2, 5), 9, 5), l[1], l[2], l[3], l[4]), renewed), api.OK)
	// That the last one isn't answered yet is nothing to Take: Judge tells it.
	renewed = dues(due(11, 4), due(12, 2), due(25, 3))
	wantChange(t, s, take(3, -1), with(s, list(l[0], bound(busy(3, 2), 0, -1), l[2], l[3], l[4]), renewed), api.OK)
	for _, id := range []int{0, 1, 6, -2, top, bottom} {
		wantChange(t, s, take(id, 1), s, api.ErrNone)
	}
	for _, seq := range []int{bottom, -1, 0, api.MaxNum - 1} {
		k := some(list(bound(idle(1, seq, "x"), 4, 2)), dues(due(9, 1)), 2, 3)
		wantChange(t, k, take(1, 3), some(list(bound(busy(1, seq+1), 4, 3)), dues(due(23, 1)), 2, 3), api.OK)
	}
	for _, seq := range []int{api.MaxNum, api.MaxNum + 1, top} {
		for _, x := range []api.Session{idle(1, seq, "x"), busy(1, seq)} {
			k := some(list(x, idle(1, 3, "")), dues(due(9, 1)), 2, 3)
			wantChange(t, k, take(1, 3), k, api.ErrBig)
			wantChange(t, k, take(2, 3), k, api.ErrNone)
		}
	}
}

// TestP17_4Answer: it isn't Busy any more, and has its answer.
func TestP17_4Answer(t *testing.T) {
	s := crowd()
	l := s.L
	for _, last := range []string{"", "x", "a\x00\xff", "a long answer, of many words and of many more"} {
		wantChange(t, s, answer(3, last), with(s, list(l[0], bound(idle(3, 1, last), 0, 1), l[2], l[3], l[4]), s.H), api.OK)
		// One that isn't Busy gets another answer.
		wantChange(t, s, answer(2, last), with(s, list(bound(idle(2, 4, last), 9, 3), l[1], l[2], l[3], l[4]), s.H), api.OK)
	}
	for _, id := range []int{0, 1, 6, -2, top, bottom} {
		wantChange(t, s, answer(id, "x"), s, api.ErrNone)
	}
}

// TestP17_4Bind: it has the transaction, 0 too, and be it another one's.
func TestP17_4Bind(t *testing.T) {
	s := crowd()
	l := s.L
	for _, txn := range []int{0, 1, 9, -4, top, bottom} {
		wantChange(t, s, bind(3, txn), with(s, list(l[0], bound(busy(3, 1), txn, 1), l[2], l[3], l[4]), s.H), api.OK)
		wantChange(t, s, bind(2, txn), with(s, list(bound(idle(2, 4, "two"), txn, 3), l[1], l[2], l[3], l[4]), s.H), api.OK)
	}
	for _, id := range []int{0, 1, 6, -2, top, bottom} {
		wantChange(t, s, bind(id, 3), s, api.ErrNone)
	}
}

// TestP17_5Tick: up to which time who goes, in which order.
func TestP17_5Tick(t *testing.T) {
	s := crowd()
	l := s.L
	for _, x := range []struct {
		now  uint64
		l    []api.Session
		h    []api.Alarm
		gone []api.Session
	}{
		{6, l, s.H, nil},
		{9, l, s.H, nil},
		{10, list(l[0], l[2], l[3], l[4]), dues(due(11, 4), due(12, 2)), list(l[1])},
		{11, list(l[0], l[2], l[4]), dues(due(12, 2)), list(l[1], l[3])},
		// Of 2, of which there are two, the first one is told.
		{12, list(l[4]), nil, list(l[1], l[3], l[0])},
		{math.MaxUint64, list(l[4]), nil, list(l[1], l[3], l[0])},
	} {
		k := with(s, x.l, x.h)
		k.Now = x.now
		wantTick(t, s, x.now, k, x.gone)
	}
	wantTick(t, New(7), 5, some(nil, nil, 1, 5), nil)
	wantTick(t, New(7), 0, New(7), nil)
}

// TestP17_5Back: time doesn't go back; who is due at Now goes, whatever time is told.
func TestP17_5Back(t *testing.T) {
	s := crowd()
	s.Now = 10
	for _, now := range []uint64{0, 9, 10} {
		wantTick(t, s, now, with(s, list(s.L[0], s.L[2], s.L[3], s.L[4]), dues(due(11, 4), due(12, 2))), list(s.L[1]))
	}
	s.Now = math.MaxUint64
	wantTick(t, s, 0, with(s, s.L[4:], nil), list(s.L[1], s.L[3], s.L[0]))
	far := some(list(idle(1, 0, "")), dues(due(math.MaxUint64, 1)), 2, math.MaxUint64-1)
	wantTick(t, far, 5, far, nil)
	wantTick(t, far, math.MaxUint64, some(nil, nil, 2, math.MaxUint64), far.L)
}

// TestP17_5Due: alarms of nobody go, of two of one Id the earlier one counts, and an alarm that isn't due stays.
func TestP17_5Due(t *testing.T) {
	x, y := idle(1, 1, "x"), busy(2, 2)
	s := some(list(x, y, idle(1, 3, "more")), dues(due(3, 9), due(4, 2), due(5, 9), due(6, 2), due(9, 2)), 3, 0)
	wantTick(t, s, 3, some(s.L, dues(due(4, 2), due(6, 2), due(5, 9), due(9, 2)), 3, 3), nil)
	wantTick(t, s, 4, some(list(x, s.L[2]), dues(due(5, 9), due(6, 2), due(9, 2)), 3, 4), list(y))
	wantTick(t, s, 6, some(list(x, s.L[2]), dues(due(9, 2)), 3, 6), list(y))
	wantTick(t, s, 9, some(list(x, s.L[2]), nil, 3, 9), list(y))
	// The less Id goes first, of one time.
	s = some(list(y, x), dues(due(4, 1), due(4, 2)), 3, 0)
	wantTick(t, s, 4, some(nil, nil, 3, 4), list(x, y))
	// What is no heap ends with the first one that isn't due.
	s = some(list(x, y), dues(due(9, 1), due(4, 2)), 3, 0)
	wantTick(t, s, 8, some(s.L, s.H, 3, 8), nil)
	wantTick(t, s, 9, some(nil, nil, 3, 9), list(x, y))
}

// TestP17_5Many: of a great many each is looked for once.
func TestP17_5Many(t *testing.T) {
	const n = 200000
	s := some(nil, nil, n+1, 0)
	for i := range n {
		s.L = append(s.L, idle(n-i, i, ""))
		s.H = append(s.H, due(uint64(i/2), i+1))
	}
	k, gone := Tick(s, n/4)
	if len(gone) != n/2+2 || len(k.L)+len(gone) != n || len(k.H) != len(k.L) {
		t.Fatalf("of %d are gone %d, left %d, with %d alarms", n, len(gone), len(k.L), len(k.H))
	}
	for i, x := range gone {
		if x.Id != i+1 {
			t.Fatalf("%d is gone as the one at %d", x.Id, i)
		}
	}
}

// TestExample: the chapter's.
func TestExample(t *testing.T) {
	s, id, e := Open(New(7), 0)
	if id != 1 || e != api.OK {
		t.Fatal(id, e)
	}
	wantJudge(t, s, req(1, 1), "", api.OK)
	s, _ = Take(s, 1, 0)
	s, _ = Answer(s, 1, "x")
	wantJudge(t, s, req(1, 1), "x", api.ErrThere)
	wantJudge(t, s, req(1, 3), "", api.ErrSeq)
}
