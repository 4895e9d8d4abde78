package lock

import (
	"math"
	"math/rand"
	"slices"
	"testing"

	"stanchion/api"
)

// TestP10_3Settle: claims that nobody is in the way of any more are given, one after the other; the others stay as they are, in order.
func TestP10_3Settle(t *testing.T) {
	wantSettle(t, api.Locks{}, api.Locks{})
	for _, x := range []struct {
		l, want api.Locks
		told    []int
	}{
		// None waits, or each has one in its way.
		{locks(helds(hold(1, xa), hold(2, sb)), nil), locks(helds(hold(1, xa), hold(2, sb)), nil), nil},
		{locks(helds(hold(1, xa)), claims(claim(2, sa, 5), claim(3, sa, 6))), locks(helds(hold(1, xa)), claims(claim(2, sa, 5), claim(3, sa, 6))), nil},
		// All that read, and none that writes behind them.
		{
			locks(nil, claims(claim(2, sa, 5), claim(3, sa, 6), claim(4, xa, 7), claim(5, sa, 8))),
			locks(helds(hold(2, sa), hold(3, sa)), claims(claim(4, xa, 7), claim(5, sa, 8))),
			[]int{2, 3},
		},
		// One that writes, and none behind it.
		{
			locks(nil, claims(claim(4, xa, 7), claim(2, sa, 5), claim(3, xa, 6))),
			locks(helds(hold(4, xa)), claims(claim(2, sa, 5), claim(3, xa, 6))),
			[]int{4},
		},
		// Past one that waits for other keys; behind what is held.
		{
			locks(helds(hold(1, xa)), claims(claim(2, xa, 5), claim(3, xb, 6), claim(4, sac, 7), claim(5, xc, 8), claim(6, sb, 9))),
			locks(helds(hold(1, xa), hold(3, xb), hold(5, xc)), claims(claim(2, xa, 5), claim(4, sac, 7), claim(6, sb, 9))),
			[]int{3, 5},
		},
		// What one itself holds isn't in its way.
		{
			locks(helds(hold(1, sa), hold(2, sb)), claims(claim(1, xa, 5), claim(3, sa, 6))),
			locks(helds(hold(1, sa), hold(2, sb), hold(1, xa)), claims(claim(3, sa, 6))),
			[]int{1},
		},
		// Two that read, and both want to write.
		{
			locks(helds(hold(1, sa), hold(2, sa)), claims(claim(1, xa, 5), claim(2, xa, 6))),
			locks(helds(hold(1, sa), hold(2, sa)), claims(claim(1, xa, 5), claim(2, xa, 6))),
			nil,
		},
		// Claims of one transaction, which no Ask makes: each is told.
		{
			locks(helds(hold(1, xb)), claims(claim(1, xa, 5), claim(1, sac, 6), claim(2, sb, 7), claim(1, xa, 8))),
			locks(helds(hold(1, xb), hold(1, xa), hold(1, sac), hold(1, xa)), claims(claim(2, sb, 7))),
			[]int{1, 1, 1},
		},
		// The same claim twice.
		{
			locks(nil, claims(claim(1, xa, 5), claim(2, xa, 5), claim(1, xa, 5), claim(2, xa, 5))),
			locks(helds(hold(1, xa)), claims(claim(2, xa, 5), claim(1, xa, 5), claim(2, xa, 5))),
			[]int{1},
		},
		// Numbers and spans that may not be: the words ask for blockers alone.
		{
			locks(helds(hold(0, xa)), claims(claim(0, sa, 0), claim(-1, from(0, "b", "a"), 1), claim(math.MinInt, from(3, "a", ""), 2))),
			locks(helds(hold(0, xa), hold(0, sa), hold(-1, from(0, "b", "a"))), claims(claim(math.MinInt, from(3, "a", ""), 2))),
			[]int{0, -1},
		},
	} {
		wantSettle(t, x.l, x.want, x.told...)
	}
}

// TestP10_3SettleMany: a queue that is longer than may be is settled, too: each third claim writes, its own key, so that all go; of one key only the first one.
func TestP10_3SettleMany(t *testing.T) {
	var l, all api.Locks
	var told []int
	for i := range 60 {
		w := one(1, "a")
		if i%3 == 0 {
			w = one(2, "b"+string(rune('0'+i)))
		}
		l.Queue = append(l.Queue, claim(60-i, w, uint64(i)))
		all.Held = append(all.Held, hold(60-i, w))
		told = append(told, 60-i)
	}
	wantSettle(t, l, all, told...)
	wantSettle(t, locks(nil, crowd(60)), locks(helds(hold(101, xa)), crowd(60)[1:]), 101)
	wantSettle(t, locks(helds(hold(1, sa)), crowd(60)), locks(helds(hold(1, sa)), crowd(60)))
}

// TestP10_3Free: all that a transaction holds goes, and all it waits for; then who can goes on, in the queue's order.
func TestP10_3Free(t *testing.T) {
	for _, x := range []struct {
		l    api.Locks
		txn  int
		want api.Locks
		told []int
	}{
		{api.Locks{}, 1, api.Locks{}, nil},
		{locks(helds(hold(1, xa)), nil), 1, api.Locks{}, nil},
		{locks(helds(hold(1, xa)), nil), 2, locks(helds(hold(1, xa)), nil), nil},
		// Spans here and there; the others' stay, in order.
		{
			locks(helds(hold(1, xa), hold(2, sb), hold(1, xc), hold(1, sb), hold(3, sb)), nil), 1,
			locks(helds(hold(2, sb), hold(3, sb)), nil), nil,
		},
		// One that holds goes: the next one that writes, and none behind it.
		{
			locks(helds(hold(1, xa)), claims(claim(3, xa, 5), claim(2, xa, 6))), 1,
			locks(helds(hold(3, xa)), claims(claim(2, xa, 6))), []int{3},
		},
		// Or all that read.
		{
			locks(helds(hold(1, xa)), claims(claim(3, sa, 5), claim(2, sa, 6), claim(4, xb, 9), claim(5, xa, 7))), 1,
			locks(helds(hold(3, sa), hold(2, sa), hold(4, xb)), claims(claim(5, xa, 7))), []int{3, 2, 4},
		},
		// One of two that read goes: the other one is still in the way.
		{
			locks(helds(hold(1, sa), hold(2, sa)), claims(claim(3, xa, 5))), 1,
			locks(helds(hold(2, sa)), claims(claim(3, xa, 5))), nil,
		},
		// Or writes now what it reads.
		{
			locks(helds(hold(1, sa), hold(2, sa)), claims(claim(2, xa, 5))), 1,
			locks(helds(hold(2, sa), hold(2, xa)), nil), []int{2},
		},
		// One that waits goes: those behind it go on.
		{
			locks(helds(hold(1, sa)), claims(claim(2, xa, 5), claim(3, sa, 6), claim(4, xa, 7), claim(5, sa, 8))), 2,
			locks(helds(hold(1, sa), hold(3, sa)), claims(claim(4, xa, 7), claim(5, sa, 8))), []int{3},
		},
		// One that holds and waits.
		{
			locks(helds(hold(1, xa), hold(2, xb)), claims(claim(3, sa, 4), claim(1, xb, 5), claim(4, sb, 6))), 1,
			locks(helds(hold(2, xb), hold(3, sa)), claims(claim(4, sb, 6))), []int{3},
		},
		// Claims that no Ask makes.
		{
			locks(helds(hold(2, xa)), claims(claim(1, xa, 5), claim(3, sa, 6), claim(1, xb, 5), claim(1, sa, 5), claim(4, sb, 7))), 1,
			locks(helds(hold(2, xa), hold(4, sb)), claims(claim(3, sa, 6))), []int{4},
		},
		// One that isn't there goes: who could go on all the time does.
		{
			locks(nil, claims(claim(3, xa, 5), claim(2, xa, 6))), 9,
			locks(helds(hold(3, xa)), claims(claim(2, xa, 6))), []int{3},
		},
		// Numbers that no transaction has.
		{locks(helds(hold(0, xa)), claims(claim(1, xa, 5))), 0, locks(helds(hold(1, xa)), nil), []int{1}},
		{locks(helds(hold(math.MinInt, xa)), claims(claim(1, xa, 5))), math.MinInt, locks(helds(hold(1, xa)), nil), []int{1}},
	} {
		wantFree(t, x.l, x.txn, x.want, x.told...)
	}
}

// wantHolds: no two transactions hold spans that clash, each waits once at most, and each that waits has one in its way.
func wantHolds(t *testing.T, l api.Locks, what string) {
	t.Helper()
	for i, h := range l.Held {
		for _, g := range l.Held[:i] {
			if h.Txn != g.Txn && toldClash(h.W, g.W) {
				t.Fatalf("%s: %s: %d and %d hold what clashes", what, show(l), h.Txn, g.Txn)
			}
		}
	}
	for i, c := range l.Queue {
		if len(toldBlockers(l, c.Txn, c.W, i)) == 0 {
			t.Fatalf("%s: %s: %d waits behind nobody", what, show(l), c.Txn)
		}
		if toldWaits(locks(nil, l.Queue[:i]), c.Txn) {
			t.Fatalf("%s: %s: %d waits twice", what, show(l), c.Txn)
		}
	}
	if len(l.Queue) > api.MaxQueue {
		t.Fatalf("%s: %d wait", what, len(l.Queue))
	}
	if k, told := Settle(l); len(told) > 0 || !alike(k, l) {
		t.Fatalf("%s: %s isn't settled", what, show(l))
	}
}

// gives tells all that ask, grant and free from nothing on, and who was told to hold what.
type gives struct {
	l    api.Locks
	want map[int]api.Want
}

// ask asks, and keeps in mind what is waited for.
func (g *gives) ask(t *testing.T, txn int, w api.Want, until uint64) {
	t.Helper()
	l, e := Ask(g.l, txn, w, until)
	switch e {
	case api.ErrWait:
		g.want[txn] = w
	case api.OK:
		if !slices.ContainsFunc(l.Held, func(h api.Hold) bool { return h.Txn == txn && toldCovers(h.W, w) }) {
			t.Fatalf("%d was told to hold %s: %s", txn, showWant(w), show(l))
		}
	}
	g.l = l
	wantHolds(t, l, "Ask")
}

// free frees one; each that is told holds what it waited for.
func (g *gives) free(t *testing.T, txn int) {
	t.Helper()
	l, told := Free(g.l, txn)
	delete(g.want, txn)
	for _, next := range told {
		w, waited := g.want[next]
		if !waited || !slices.Contains(l.Held, hold(next, w)) {
			t.Fatalf("%d was told, waiting %t for %s: %s", next, waited, showWant(w), show(l))
		}
		delete(g.want, next)
	}
	for _, h := range l.Held {
		if h.Txn == txn {
			t.Fatalf("%d was freed: %s", txn, show(l))
		}
	}
	if len(l.Queue) != len(g.want) {
		t.Fatalf("%d wait, in %s", len(g.want), show(l))
	}
	g.l = l
	wantHolds(t, l, "Free")
}

// TestP10_4Walk: from nothing on, by Ask, Settle and Free, of few keys and of many, of few transactions and of more than may wait; at the end, one after the other freed, nothing is left.
func TestP10_4Walk(t *testing.T) {
	r := rand.New(rand.NewSource(104))
	for i := range 60 {
		g := gives{want: map[int]api.Want{}}
		txns := 2 + i%24
		for n := range 200 {
			txn := 1 + r.Intn(txns)
			switch r.Intn(6) {
			case 0:
				g.free(t, txn)
			case 1:
				g.l, _ = Settle(g.l)
			default:
				g.ask(t, txn, lotWant(r), uint64(n))
			}
		}
		for len(g.l.Queue)+len(g.l.Held) > 0 {
			who := append(slices.Clone(g.l.Held), hold(0, xa))[0].Txn
			if who == 0 {
				t.Fatalf("nobody holds: %s", show(g.l))
			}
			g.free(t, who)
		}
	}
}

// TestP10_4All: all short rows of asks and frees of three transactions.
func TestP10_4All(t *testing.T) {
	steps := 3 * (len(someWants()) + 1)
	for i := range steps * steps * steps * steps {
		var l api.Locks
		for rest := i; rest > 0; rest /= steps {
			txn, do := 1+rest%3, rest%steps/3
			if do == len(someWants()) {
				l, _ = Free(l, txn)
			} else {
				l, _ = Ask(l, txn, someWants()[do], 5)
			}
		}
		wantHolds(t, l, "a short row")
	}
}
