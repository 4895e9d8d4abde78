package lock

import (
	"bytes"
	"fmt"
	"math"
	"math/rand"
	"slices"
	"testing"

	"stanchion/api"
)

// from is a span of a mode, from lo on, below hi.
func from(mode int, lo, hi string) api.Want {
	return api.Want{Mode: mode, Lo: lo, Hi: hi}
}

// one is the span of a key.
func one(mode int, key string) api.Want {
	return from(mode, key, key+"\x00")
}

// The spans that most tests take: the keys a and b, to read and to write, and all from a on, below c.
var (
	sa, xa = one(1, "a"), one(2, "a")
	sb, xb = one(1, "b"), one(2, "b")
	sc, xc = one(1, "c"), one(2, "c")
	sac    = from(1, "a", "c")
	xac    = from(2, "a", "c")
)

// hold is what a transaction holds.
func hold(txn int, w api.Want) api.Hold {
	return api.Hold{Txn: txn, W: w}
}

// claim is what a transaction waits for.
func claim(txn int, w api.Want, until uint64) api.Claim {
	return api.Claim{Txn: txn, W: w, Until: until}
}

// helds are locks that are held.
func helds(h ...api.Hold) []api.Hold {
	return h
}

// claims are a queue.
func claims(c ...api.Claim) []api.Claim {
	return c
}

// locks are those of two lists.
func locks(h []api.Hold, c []api.Claim) api.Locks {
	return api.Locks{Held: h, Queue: c}
}

// showWant tells a span.
func showWant(w api.Want) string {
	return fmt.Sprintf("%d[%.40q, %.40q)", w.Mode, w.Lo, w.Hi)
}

// show tells locks.
func show(l api.Locks) string {
	s := "held:"
	for _, h := range l.Held {
		s += fmt.Sprintf(" %d %s", h.Txn, showWant(h.W))
	}
	s += "; queue:"
	for _, c := range l.Queue {
		s += fmt.Sprintf(" %d %s until %d", c.Txn, showWant(c.W), c.Until)
	}
	return s
}

// alikeWants: are two spans the same?
func alikeWants(a, b api.Want) bool {
	return a.Mode == b.Mode && a.Lo == b.Lo && a.Hi == b.Hi
}

// alike: are two locks the same, one by one, in order, field by field?
func alike(a, b api.Locks) bool {
	if len(a.Held) != len(b.Held) || len(a.Queue) != len(b.Queue) {
		return false
	}
	for i, h := range a.Held {
		if g := b.Held[i]; h.Txn != g.Txn || !alikeWants(h.W, g.W) {
			return false
		}
	}
	for i, c := range a.Queue {
		if d := b.Queue[i]; c.Txn != d.Txn || c.Until != d.Until || !alikeWants(c.W, d.W) {
			return false
		}
	}
	return true
}

// toldBelow: is a key below another one, by their bytes?
func toldBelow(a, b string) bool {
	return bytes.Compare([]byte(a), []byte(b)) < 0
}

// toldIn: is a key in a span, as chapter 9 tells it?
func toldIn(w api.Want, key string) bool {
	return !toldBelow(key, w.Lo) && (w.Hi == "" || toldBelow(key, w.Hi))
}

// toldMay: may a span be, as chapter 9 tells it?
func toldMay(w api.Want) bool {
	return (w.Mode == 1 || w.Mode == 2) && (w.Hi == "" || toldBelow(w.Lo, w.Hi))
}

// toldClash: have two spans a key of both, and is one of them ModeX? If there is such a key, one of the beginnings is one.
func toldClash(a, b api.Want) bool {
	both := false
	for _, k := range []string{a.Lo, b.Lo} {
		both = both || toldIn(a, k) && toldIn(b, k)
	}
	return both && (a.Mode == 2 || b.Mode == 2)
}

// toldCovers: as chapter 9 tells it; a span that may be ends below another one's end, or at it.
func toldCovers(a, b api.Want) bool {
	ends := a.Hi == "" || b.Hi != "" && !toldBelow(a.Hi, b.Hi)
	return toldMay(b) && !toldBelow(b.Lo, a.Lo) && ends && (a.Mode == 2 || b.Mode != 2)
}

// toldBlockers is Blockers, as its words tell it.
func toldBlockers(l api.Locks, txn int, w api.Want, n int) []int {
	var all []int
	for _, h := range l.Held {
		if h.Txn != txn && toldClash(h.W, w) && !slices.Contains(all, h.Txn) {
			all = append(all, h.Txn)
		}
	}
	for i, c := range l.Queue {
		if i < n && c.Txn != txn && toldClash(c.W, w) && !slices.Contains(all, c.Txn) {
			all = append(all, c.Txn)
		}
	}
	slices.Sort(all)
	return all
}

// toldWaits is Waits, as its words tell it.
func toldWaits(l api.Locks, txn int) bool {
	for _, c := range l.Queue {
		if c.Txn == txn {
			return true
		}
	}
	return false
}

// toldLate is Late, as its words tell it.
func toldLate(l api.Locks, now uint64) []int {
	var all []int
	for _, c := range l.Queue {
		if c.Until < now || c.Until == now {
			all = append(all, c.Txn)
		}
	}
	return all
}

// toldAsk is Ask, as its words tell it.
func toldAsk(l api.Locks, txn int, w api.Want, until uint64) (api.Locks, api.Errno) {
	if txn < 1 || !toldMay(w) {
		return l, api.ErrArg
	}
	if toldWaits(l, txn) {
		return l, api.ErrThere
	}
	for _, h := range l.Held {
		if h.Txn == txn && toldCovers(h.W, w) {
			return l, api.OK
		}
	}
	k := copied(l)
	if len(toldBlockers(l, txn, w, len(l.Queue))) == 0 {
		k.Held = append(k.Held, hold(txn, w))
		return k, api.OK
	}
	if len(l.Queue) >= 16 {
		return l, api.ErrBusy
	}
	k.Queue = append(k.Queue, claim(txn, w, until))
	return k, api.ErrWait
}

// toldFirst is the place of the first claim without blockers; the queue's length, if there is none.
func toldFirst(l api.Locks) int {
	for i, c := range l.Queue {
		if len(toldBlockers(l, c.Txn, c.W, i)) == 0 {
			return i
		}
	}
	return len(l.Queue)
}

// toldSettle is Settle, as its words tell it.
func toldSettle(l api.Locks) (api.Locks, []int) {
	var all []int
	for i := toldFirst(l); i < len(l.Queue); i = toldFirst(l) {
		c := l.Queue[i]
		all = append(all, c.Txn)
		l = locks(append(copied(l).Held, hold(c.Txn, c.W)), append(copied(l).Queue[:i], l.Queue[i+1:]...))
	}
	return l, all
}

// toldFree is Free, as its words tell it.
func toldFree(l api.Locks, txn int) (api.Locks, []int) {
	var k api.Locks
	for _, h := range l.Held {
		if h.Txn != txn {
			k.Held = append(k.Held, h)
		}
	}
	for _, c := range l.Queue {
		if c.Txn != txn {
			k.Queue = append(k.Queue, c)
		}
	}
	return toldSettle(k)
}

// copied is l with lists of its own.
func copied(l api.Locks) api.Locks {
	return locks(append(helds(), l.Held...), append(claims(), l.Queue...))
}

// What spare room is full of.
var (
	spareHold  = hold(77, from(2, "spare", "room"))
	spareClaim = claim(78, from(2, "spare", "room"), 79)
)

// roomy is a list with spare room behind it, which is full of a thing.
func roomy[T any](l []T, spare T) []T {
	return append(append(make([]T, 0, len(l)+4), l...), spare, spare, spare, spare)[:len(l)]
}

// roomyLocks are locks whose lists are roomy.
func roomyLocks(l api.Locks) api.Locks {
	return locks(roomy(l.Held, spareHold), roomy(l.Queue, spareClaim))
}

// wantUntouched: roomy locks are as they were, their spare room too.
func wantUntouched(t *testing.T, now, before api.Locks, what string) {
	t.Helper()
	if !alike(now, before) {
		t.Errorf("%s: handed in was %s, and is now %s", what, show(before), show(now))
	}
	held, queue := now.Held, now.Queue
	for i := range 4 {
		if held[:len(held)+4][len(held)+i] != spareHold || queue[:len(queue)+4][len(queue)+i] != spareClaim {
			t.Errorf("%s: the spare room behind %s was written into", what, show(before))
		}
	}
}

// spoil writes all over locks that came out, their spare room too: nobody else ought to see that.
func spoil(l api.Locks) {
	h, q := l.Held[:cap(l.Held)], l.Queue[:cap(l.Queue)]
	for i := range h {
		h[i] = spareHold
	}
	for i := range q {
		q[i] = spareClaim
	}
}

// wantAsk: what Ask answers; what is handed in stays as it is, whatever becomes of the answer.
func wantAsk(t *testing.T, l api.Locks, txn int, w api.Want, until uint64, want api.Locks, err api.Errno) {
	t.Helper()
	in := roomyLocks(l)
	got, e := Ask(in, txn, w, until)
	if e != err || !alike(got, want) {
		t.Errorf("Ask(%s, %d, %s, %d): %s, %d; want %s, %d", show(l), txn, showWant(w), until, show(got), e, show(want), err)
	}
	spoil(got)
	wantUntouched(t, in, l, "Ask")
}

// wantSettle: what Settle answers.
func wantSettle(t *testing.T, l, want api.Locks, told ...int) {
	t.Helper()
	in := roomyLocks(l)
	got, all := Settle(in)
	if !alike(got, want) || !slices.Equal(all, told) {
		t.Errorf("Settle(%s): %s, %d; want %s, %d", show(l), show(got), all, show(want), told)
	}
	spoil(got)
	wantUntouched(t, in, l, "Settle")
}

// wantFree: what Free answers.
func wantFree(t *testing.T, l api.Locks, txn int, want api.Locks, told ...int) {
	t.Helper()
	in := roomyLocks(l)
	got, all := Free(in, txn)
	if !alike(got, want) || !slices.Equal(all, told) {
		t.Errorf("Free(%s, %d): %s, %d; want %s, %d", show(l), txn, show(got), all, show(want), told)
	}
	spoil(got)
	wantUntouched(t, in, l, "Free")
}

// wantBlockers: what Blockers answers.
func wantBlockers(t *testing.T, l api.Locks, txn int, w api.Want, n int, want ...int) {
	t.Helper()
	in := roomyLocks(l)
	if got := Blockers(in, txn, w, n); !slices.Equal(got, want) {
		t.Errorf("Blockers(%s, %d, %s, %d): %d; want %d", show(l), txn, showWant(w), n, got, want)
	}
	wantUntouched(t, in, l, "Blockers")
}

// TestP10_1Blockers: those that hold, and those that wait ahead, of one span or of many; not the one that asks, nor who only reads what is read.
func TestP10_1Blockers(t *testing.T) {
	l := locks(helds(hold(5, sa), hold(3, sb), hold(5, sac), hold(9, sc), hold(4, one(1, "d"))), claims(claim(2, xa, 1), claim(7, sb, 1), claim(3, xac, 1), claim(1, xc, 1)))
	for _, x := range []struct {
		txn  int
		w    api.Want
		n    int
		want []int
	}{
		{6, sa, 0, nil},
		{6, xa, 0, []int{5}},
		{5, xa, 0, nil},
		{6, xb, 0, []int{3, 5}},
		{3, xb, 0, []int{5}},
		{5, xb, 0, []int{3}},
		{6, xac, 0, []int{3, 5}},
		{6, from(2, "", ""), 0, []int{3, 4, 5, 9}},
		{6, from(1, "", ""), 0, nil},
		{6, one(2, "e"), 4, nil},
		{6, one(2, ""), 4, nil},
		{6, one(2, "d"), 4, []int{4}},
		{6, sa, 1, []int{2}},
		{2, sa, 1, nil},
		{2, sa, 3, []int{3}},
		{6, sb, 1, nil},
		{6, sb, 2, nil},
		{6, sb, 3, []int{3}},
		{6, xb, 1, []int{3, 5}},
		{6, xb, 2, []int{3, 5, 7}},
		{6, xac, 4, []int{2, 3, 5, 7}},
		{6, from(2, "", ""), 3, []int{2, 3, 4, 5, 7, 9}},
		{6, from(2, "", ""), 4, []int{1, 2, 3, 4, 5, 7, 9}},
		{3, from(2, "", ""), 4, []int{1, 2, 4, 5, 7, 9}},
		{6, from(1, "", ""), 4, []int{1, 2, 3}},
		{6, sc, 3, nil},
		{6, sc, 4, []int{1}},
	} {
		wantBlockers(t, l, x.txn, x.w, x.n, x.want...)
	}
}

// TestP10_1BlockersN: of a queue the first ones count: none, if there are to be none or less, all, if there are to be more than there are.
func TestP10_1BlockersN(t *testing.T) {
	l := locks(helds(hold(8, xa)), claims(claim(7, xa, 0), claim(6, xa, 0), claim(5, sa, 0), claim(4, xb, 0)))
	for _, x := range []struct {
		n    int
		want []int
	}{
		{math.MinInt, []int{8}},
		{-1, []int{8}},
		{0, []int{8}},
		{1, []int{7, 8}},
		{2, []int{6, 7, 8}},
		{3, []int{6, 7, 8}},
		{4, []int{6, 7, 8}},
		{5, []int{6, 7, 8}},
		{math.MaxInt, []int{6, 7, 8}},
	} {
		wantBlockers(t, l, 1, sa, x.n, x.want...)
	}
	for _, n := range []int{math.MinInt, -1, 0, 1, math.MaxInt} {
		wantBlockers(t, api.Locks{}, 1, xa, n)
	}
}

// TestP10_1BlockersMany: many numbers, such among them that no transaction has, come rising, each once.
func TestP10_1BlockersMany(t *testing.T) {
	var l api.Locks
	var want []int
	for i := range 200 {
		txn := i*37%200 - 20
		l.Held = append(l.Held, hold(txn, sa), hold(txn, sac))
		l.Queue = append(l.Queue, claim(txn+100, xa, 0), claim(txn+100, sac, 0))
	}
	for txn := -20; txn < 280; txn++ {
		want = append(want, txn)
	}
	wantBlockers(t, l, 1000, xa, 400, want...)
	wantBlockers(t, l, -20, xa, 400, want[1:]...)
	wantBlockers(t, l, 279, xa, 400, want[:299]...)
	wantBlockers(t, l, 1000, xa, 0, want[:200]...)
	l = locks(helds(hold(math.MaxInt, sa), hold(0, sa), hold(math.MinInt, sa)), nil)
	wantBlockers(t, l, 1, xa, 0, math.MinInt, 0, math.MaxInt)
	wantBlockers(t, l, 0, xa, 0, math.MinInt, math.MaxInt)
}

// TestP10_1BlockersWild: spans that may not be clash as their keys and their modes tell, on either side.
func TestP10_1BlockersWild(t *testing.T) {
	wild := []api.Want{from(0, "a", "b"), from(3, "a", "b"), from(2, "b", "a"), from(1, "b", "a"), from(2, "a", "a"), from(-2, "", "")}
	for i, w := range wild {
		l := locks(helds(hold(2, w)), claims(claim(3, w, 0)))
		var want []int
		if i == 0 || i == 1 || i == 5 {
			want = []int{2, 3}
		}
		wantBlockers(t, l, 1, xa, 1, want...)
		wantBlockers(t, l, 1, sa, 1)
		l = locks(helds(hold(2, xa), hold(4, sa)), claims(claim(3, xa, 0)))
		wantBlockers(t, l, 1, w, 1, want...)
	}
}

// TestP10_1Waits: who has a claim waits, whatever it holds; who only holds doesn't.
func TestP10_1Waits(t *testing.T) {
	l := locks(helds(hold(1, xa), hold(2, xb)), claims(claim(2, sa, 5), claim(4, sa, 5), claim(-1, sb, 0), claim(4, sb, 5)))
	for txn, want := range map[int]bool{1: false, 2: true, 3: false, 4: true, 0: false, -1: true, 5: false, math.MaxInt: false, math.MinInt: false} {
		if Waits(l, txn) != want || Waits(api.Locks{Held: l.Held}, txn) {
			t.Errorf("Waits(%s, %d): %t", show(l), txn, !want)
		}
	}
}

// TestP10_1Late: claims whose time is now, or is over, in the queue's order, not in that of their times or numbers.
func TestP10_1Late(t *testing.T) {
	l := locks(helds(hold(1, xa)), claims(claim(7, sa, 5), claim(3, sa, 9), claim(9, sa, 0), claim(2, sa, math.MaxUint64), claim(5, sa, 1<<63), claim(4, sa, 5)))
	for _, x := range []struct {
		now  uint64
		want []int
	}{
		{0, []int{9}},
		{1, []int{9}},
		{4, []int{9}},
		{5, []int{7, 9, 4}},
		{6, []int{7, 9, 4}},
		{8, []int{7, 9, 4}},
		{9, []int{7, 3, 9, 4}},
		{1<<63 - 1, []int{7, 3, 9, 4}},
		{1 << 63, []int{7, 3, 9, 5, 4}},
		{math.MaxUint64 - 1, []int{7, 3, 9, 5, 4}},
		{math.MaxUint64, []int{7, 3, 9, 2, 5, 4}},
	} {
		if got := Late(l, x.now); !slices.Equal(got, x.want) {
			t.Errorf("Late(%s, %d): %d; want %d", show(l), x.now, got, x.want)
		}
		if got := Late(api.Locks{Held: l.Held}, x.now); len(got) > 0 {
			t.Errorf("Late of no claims at %d: %d", x.now, got)
		}
	}
}

// TestP10_1Same: locks that are the same, and such that differ in one thing, the order among them.
func TestP10_1Same(t *testing.T) {
	l := locks(helds(hold(1, xa), hold(2, sb)), claims(claim(3, sa, 5), claim(4, xb, 6)))
	if !Same(l, copied(l)) || !Same(l, roomyLocks(l)) || !Same(api.Locks{}, locks(helds(), claims())) || !Same(locks([]api.Hold{}, nil), locks(nil, []api.Claim{})) {
		t.Error("the same ones aren't told so")
	}
	for i, k := range []api.Locks{
		{},
		locks(l.Held, nil),
		locks(nil, l.Queue),
		locks(l.Held[:1], l.Queue),
		locks(l.Held[1:], l.Queue),
		locks(l.Held, l.Queue[:1]),
		locks(l.Held, l.Queue[1:]),
		locks(helds(hold(1, xa), hold(2, sb), hold(2, sb)), l.Queue),
		locks(l.Held, append(copied(l).Queue, l.Queue[1])),
		locks(helds(l.Held[1], l.Held[0]), l.Queue),
		locks(l.Held, claims(l.Queue[1], l.Queue[0])),
		locks(helds(hold(5, xa), hold(2, sb)), l.Queue),
		locks(helds(hold(1, sa), hold(2, sb)), l.Queue),
		locks(helds(hold(1, xa), hold(2, from(1, "", "b\x00"))), l.Queue),
		locks(helds(hold(1, xa), hold(2, from(1, "b", ""))), l.Queue),
		locks(l.Held, claims(claim(5, sa, 5), claim(4, xb, 6))),
		locks(l.Held, claims(claim(3, xa, 5), claim(4, xb, 6))),
		locks(l.Held, claims(claim(3, sa, 5), claim(4, from(2, "a", "b\x00"), 6))),
		locks(l.Held, claims(claim(3, sa, 5), claim(4, from(2, "b", "c"), 6))),
		locks(l.Held, claims(claim(3, sa, 5), claim(4, xb, 7))),
		locks(helds(hold(1, xa), hold(2, sb), hold(3, sa)), l.Queue[1:]),
	} {
		if Same(l, k) || Same(k, l) {
			t.Errorf("%d: %s and %s", i, show(l), show(k))
		}
	}
}

// lists are all rows of at most n of some things.
func lists[T any](some []T, n int) [][]T {
	all := [][]T{nil}
	last := all
	for range n {
		var longer [][]T
		for _, l := range last {
			for _, v := range some {
				longer = append(longer, append(slices.Clone(l), v))
			}
		}
		all, last = append(all, longer...), longer
	}
	return all
}

// someWants are few spans: such that clash, cover each other, and don't.
func someWants() []api.Want {
	return []api.Want{sa, xa, xb, sac}
}

// someLocks are all with at most so many spans held, and claims, of three transactions, that may have come by Ask or not.
func someLocks(held, queue int) []api.Locks {
	var h []api.Hold
	var c []api.Claim
	for txn := 1; txn <= 3; txn++ {
		for i, w := range someWants() {
			h = append(h, hold(txn, w))
			c = append(c, claim(txn, w, uint64(i)))
		}
	}
	var all []api.Locks
	for _, x := range lists(h, held) {
		for _, y := range lists(c, queue) {
			all = append(all, locks(x, y))
		}
	}
	return all
}

// TestToldFew: all small locks, each transaction and span, against the words of P10.1 and P10.2.
func TestToldFew(t *testing.T) {
	for _, l := range someLocks(2, 2) {
		for txn := range 5 {
			for _, w := range append(someWants(), xac, from(2, "b", "a")) {
				for n := -1; n <= 3; n++ {
					if got, want := Blockers(l, txn, w, n), toldBlockers(l, txn, w, n); !slices.Equal(got, want) {
						t.Fatalf("Blockers(%s, %d, %s, %d): %d; want %d", show(l), txn, showWant(w), n, got, want)
					}
				}
				got, e := Ask(l, txn, w, 7)
				if want, err := toldAsk(l, txn, w, 7); e != err || !alike(got, want) {
					t.Fatalf("Ask(%s, %d, %s, 7): %s, %d; want %s, %d", show(l), txn, showWant(w), show(got), e, show(want), err)
				}
			}
			if got := Waits(l, txn); got != toldWaits(l, txn) {
				t.Fatalf("Waits(%s, %d): %t", show(l), txn, got)
			}
			if got, want := Late(l, uint64(txn)), toldLate(l, uint64(txn)); !slices.Equal(got, want) {
				t.Fatalf("Late(%s, %d): %d; want %d", show(l), txn, got, want)
			}
		}
	}
}

// TestToldSettle: all locks with few held and three claims at most, against the words of P10.3.
func TestToldSettle(t *testing.T) {
	for _, l := range someLocks(1, 3) {
		got, told := Settle(l)
		if want, all := toldSettle(l); !alike(got, want) || !slices.Equal(told, all) {
			t.Fatalf("Settle(%s): %s, %d; want %s, %d", show(l), show(got), told, show(want), all)
		}
		for txn := range 4 {
			got, told := Free(l, txn)
			if want, all := toldFree(l, txn); !alike(got, want) || !slices.Equal(told, all) {
				t.Fatalf("Free(%s, %d): %s, %d; want %s, %d", show(l), txn, show(got), told, show(want), all)
			}
		}
	}
}

// lotWant is any span of short ends, mostly one that may be.
func lotWant(r *rand.Rand) api.Want {
	ends := []string{"", "a", "a\x00", "b", "c", "c\x00", "d"}
	w := from(1+r.Intn(2), ends[r.Intn(len(ends))], ends[r.Intn(len(ends))])
	switch r.Intn(4) {
	case 0:
		w = one(w.Mode, w.Lo)
	case 1:
		w.Mode = r.Intn(4)
	}
	return w
}

// TestToldWild: longer locks, that nobody came to by Ask, against the words.
func TestToldWild(t *testing.T) {
	r := rand.New(rand.NewSource(101))
	for range 4000 {
		var l api.Locks
		for range r.Intn(8) {
			l.Held = append(l.Held, hold(r.Intn(9)-1, lotWant(r)))
		}
		for range r.Intn(20) {
			l.Queue = append(l.Queue, claim(r.Intn(9)-1, lotWant(r), uint64(r.Intn(5))))
		}
		txn, w, n := r.Intn(9)-1, lotWant(r), r.Intn(22)-1
		wantBlockers(t, l, txn, w, n, toldBlockers(l, txn, w, n)...)
		want, err := toldAsk(l, txn, w, 3)
		wantAsk(t, l, txn, w, 3, want, err)
		want, told := toldSettle(l)
		wantSettle(t, l, want, told...)
		want, told = toldFree(l, txn)
		wantFree(t, l, txn, want, told...)
		if got, want := Late(l, 2), toldLate(l, 2); !slices.Equal(got, want) {
			t.Errorf("Late(%s, 2): %d; want %d", show(l), got, want)
		}
		if t.Failed() {
			t.FailNow()
		}
	}
}

// TestR3: locks that come of one and the same, one after the other, stand apart, with an error too.
func TestR3(t *testing.T) {
	l := roomyLocks(locks(helds(hold(1, sa), hold(2, sb)), claims(claim(3, xa, 5))))
	a, _ := Ask(l, 4, sc, 9)
	b, _ := Ask(l, 5, xc, 9)
	c, _ := Ask(l, 4, sa, 9)
	d, _ := Ask(l, 5, xb, 8)
	for _, x := range []struct {
		txn int
		w   api.Want
	}{{0, sa}, {3, sa}, {1, sa}} {
		none, _ := Ask(l, x.txn, x.w, 9)
		_, _ = append(none.Held, spareHold), append(none.Queue, spareClaim)
		spoil(none)
	}
	still, _ := Settle(l)
	spoil(still)
	f, _ := Free(l, 2)
	g, told := Free(l, 1)
	told[0] = 99
	for _, x := range []struct{ got, want api.Locks }{
		{a, locks(helds(hold(1, sa), hold(2, sb), hold(4, sc)), claims(claim(3, xa, 5)))},
		{b, locks(helds(hold(1, sa), hold(2, sb), hold(5, xc)), claims(claim(3, xa, 5)))},
		{c, locks(helds(hold(1, sa), hold(2, sb)), claims(claim(3, xa, 5), claim(4, sa, 9)))},
		{d, locks(helds(hold(1, sa), hold(2, sb)), claims(claim(3, xa, 5), claim(5, xb, 8)))},
		{f, locks(helds(hold(1, sa)), claims(claim(3, xa, 5)))},
		{g, locks(helds(hold(2, sb), hold(3, xa)), nil)},
	} {
		if !alike(x.got, x.want) {
			t.Errorf("%s; want %s", show(x.got), show(x.want))
		}
	}
	wantUntouched(t, l, locks(helds(hold(1, sa), hold(2, sb)), claims(claim(3, xa, 5))), "all of them")
}

// TestExample: the chapter's.
func TestExample(t *testing.T) {
	l, e := Ask(api.Locks{}, 1, xa, 5)
	if e != api.OK {
		t.Error(e)
	}
	l, e = Ask(l, 2, sa, 5)
	if e != api.ErrWait {
		t.Error(e)
	}
	l, told := Free(l, 1)
	if !slices.Equal(told, []int{2}) || !alike(l, locks(helds(hold(2, sa)), nil)) {
		t.Errorf("%s, %d", show(l), told)
	}
}
