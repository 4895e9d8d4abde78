package session

import (
	"fmt"
	"slices"
	"testing"

	"stanchion/api"
)

// idle is a session that waits for a request; busy is one whose last request isn't answered yet.
func idle(id, seq int, last string) api.Session {
	return api.Session{Id: id, Seq: seq, Last: last}
}

func busy(id, seq int) api.Session {
	return api.Session{Id: id, Seq: seq, Busy: true}
}

// bound is a session with a transaction, and where its last request came from.
func bound(x api.Session, txn, conn int) api.Session {
	x.Txn, x.Conn = txn, conn
	return x
}

// list are sessions.
func list(l ...api.Session) []api.Session {
	return l
}

// due is an alarm, dues are alarms.
func due(at uint64, id int) api.Alarm {
	return api.Alarm{At: at, Id: id}
}

func dues(l ...api.Alarm) []api.Alarm {
	return l
}

// some are sessions of the epoch 7, with alarms, the next number and the time.
func some(l []api.Session, h []api.Alarm, next int, now uint64) api.Sessions {
	return api.Sessions{Epoch: 7, L: l, H: h, Next: next, Now: now}
}

// with are the same sessions, but some fields.
func with(s api.Sessions, l []api.Session, h []api.Alarm) api.Sessions {
	s.L, s.H = l, h
	return s
}

// req is a request of the epoch 7.
func req(id, seq int) api.Req {
	return api.Req{Epoch: 7, Sess: id, Seq: seq}
}

// brief tells sessions.
func brief(s api.Sessions) string {
	t := fmt.Sprintf("epoch %d, next %d, now %d:", s.Epoch, s.Next, s.Now)
	for _, x := range s.L {
		t += " " + one(x)
	}
	t += ", due"
	for _, a := range s.H {
		t += fmt.Sprintf(" %d.%d", a.At, a.Id)
	}
	return t
}

// one tells a session.
func one(x api.Session) string {
	return fmt.Sprintf("(%d seq %d busy %t last %q txn %d conn %d)", x.Id, x.Seq, x.Busy, x.Last, x.Txn, x.Conn)
}

// each tells sessions of a row.
func each(l []api.Session) string {
	return brief(api.Sessions{L: l})
}

// alike: are two the same, told without a call of the package?
func alike(a, b api.Sessions) bool {
	return [3]any{a.Epoch, a.Next, a.Now} == [3]any{b.Epoch, b.Next, b.Now} && slices.Equal(a.L, b.L) && slices.Equal(a.H, b.H)
}

// What stands in the room behind roomy lists.
var (
	spare     = api.Session{Id: 77, Seq: 78, Busy: true, Last: "spare", Txn: 79, Conn: 80}
	spareTime = api.Alarm{At: 77, Id: 78}
)

// apart is a list of its own, with the same elements, and room behind it in which a spare one stands.
func apart[T any](l []T, spare T) []T {
	return append(append(make([]T, 0, len(l)+2), l...), spare, spare)[:len(l)]
}

// roomy are sessions whose lists are their own, and have spare room.
func roomy(s api.Sessions) api.Sessions {
	return with(s, apart(s.L, spare), apart(s.H, spareTime))
}

// wantUntouched: roomy sessions are as they were, and so is the room behind their lists. The first fault ends the test, here and below: of all small ones there would be thousands.
func wantUntouched(t *testing.T, in, was api.Sessions, what string) {
	t.Helper()
	n, m := len(in.L), len(in.H)
	behind := slices.Equal(in.L[:n+2][n:], list(spare, spare)) && slices.Equal(in.H[:m+2][m:], dues(spareTime, spareTime))
	if !alike(in, was) || !behind {
		t.Fatalf("%s: what was handed in was\n%s, and is now\n%s", what, brief(was), brief(with(in, in.L[:n+2], in.H[:m+2])))
	}
}

// spoil writes over lists, and over the room behind them.
func spoil(s api.Sessions) {
	spoilList(s.L, api.Session{Id: -9, Last: "spoilt"})
	spoilList(s.H, due(99, -9))
}

func spoilList[T any](l []T, with T) {
	all := l[:cap(l)]
	for i := range all {
		all[i] = with
	}
}

// wantFind: what Find answers.
func wantFind(t *testing.T, s api.Sessions, id int, want api.Session, is bool) {
	t.Helper()
	in := roomy(s)
	if x, got := Find(in, id); x != want || got != is {
		t.Fatalf("Find of %d in %s: %s, %t; want %s, %t", id, brief(s), one(x), got, one(want), is)
	}
	wantUntouched(t, in, s, "Find")
}

// wantOf: what Of answers.
func wantOf(t *testing.T, s api.Sessions, txn int, want api.Session, is bool) {
	t.Helper()
	in := roomy(s)
	if x, got := Of(in, txn); x != want || got != is {
		t.Fatalf("Of %d in %s: %s, %t; want %s, %t", txn, brief(s), one(x), got, one(want), is)
	}
	wantUntouched(t, in, s, "Of")
}

// wantJudge: what Judge answers.
func wantJudge(t *testing.T, s api.Sessions, q api.Req, last string, e api.Errno) {
	t.Helper()
	in := roomy(s)
	if l, got := Judge(in, q); l != last || got != e {
		t.Fatalf("Judge of (epoch %d, session %d, seq %d) in %s: %q, %d; want %q, %d", q.Epoch, q.Sess, q.Seq, brief(s), l, got, last, e)
	}
	wantUntouched(t, in, s, "Judge")
}

// wantOpen: what Open answers; the same, and in memory of its own, when it is asked again.
func wantOpen(t *testing.T, s api.Sessions, conn int, want api.Sessions, id int, e api.Errno) {
	t.Helper()
	in := roomy(s)
	for range 2 {
		k, n, got := Open(in, conn)
		if !alike(k, want) || n != id || got != e {
			t.Fatalf("Open on %d of %s:\n%s, %d, %d; want\n%s, %d, %d", conn, brief(s), brief(k), n, got, brief(want), id, e)
		}
		spoil(k)
		wantUntouched(t, in, s, "Open")
	}
}

// change is a call that changes sessions, with its name.
type change struct {
	name string
	do   func(s api.Sessions) (api.Sessions, api.Errno)
}

// The calls that change one session.
func renew(id int) change {
	return change{fmt.Sprintf("Renew of %d", id), func(s api.Sessions) (api.Sessions, api.Errno) { return Renew(s, id) }}
}

func shut(id int) change {
	return change{fmt.Sprintf("Close of %d", id), func(s api.Sessions) (api.Sessions, api.Errno) { return Close(s, id) }}
}

func take(id, conn int) change {
	return change{fmt.Sprintf("Take of %d from %d", id, conn), func(s api.Sessions) (api.Sessions, api.Errno) { return Take(s, id, conn) }}
}

func answer(id int, last string) change {
	return change{fmt.Sprintf("Answer of %d, %q", id, last), func(s api.Sessions) (api.Sessions, api.Errno) { return Answer(s, id, last) }}
}

func bind(id, txn int) change {
	return change{fmt.Sprintf("Bind of %d to %d", id, txn), func(s api.Sessions) (api.Sessions, api.Errno) { return Bind(s, id, txn) }}
}

// wantChange: what such a call answers; the same, and in memory of its own, when it is asked again.
func wantChange(t *testing.T, s api.Sessions, c change, want api.Sessions, e api.Errno) {
	t.Helper()
	in := roomy(s)
	for range 2 {
		k, got := c.do(in)
		if !alike(k, want) || got != e {
			t.Fatalf("%s in %s:\n%s, %d; want\n%s, %d", c.name, brief(s), brief(k), got, brief(want), e)
		}
		spoil(k)
		wantUntouched(t, in, s, c.name)
	}
}

// wantTick: what Tick answers; the same, and in memory of its own, when it is asked again.
func wantTick(t *testing.T, s api.Sessions, now uint64, want api.Sessions, gone []api.Session) {
	t.Helper()
	in := roomy(s)
	for range 2 {
		k, l := Tick(in, now)
		if !alike(k, want) || !slices.Equal(l, gone) {
			t.Fatalf("Tick %d of %s:\n%s, gone %s; want\n%s, gone %s", now, brief(s), brief(k), each(l), brief(want), each(gone))
		}
		kept := slices.Clone(l)
		spoil(k)
		if !slices.Equal(l, kept) {
			t.Fatalf("Tick %d of %s: the two lists share memory", now, brief(s))
		}
		spoilList(l, spare)
		wantUntouched(t, in, s, "Tick")
	}
}

// wantSame: what Same answers, either way round.
func wantSame(t *testing.T, a, b api.Sessions, is bool) {
	t.Helper()
	x, y := roomy(a), roomy(b)
	if Same(x, y) != is || Same(y, x) != is {
		t.Fatalf("%s and\n%s are the same: not %t", brief(a), brief(b), is)
	}
	wantUntouched(t, x, a, "Same")
	wantUntouched(t, y, b, "Same")
}
