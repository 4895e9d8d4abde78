package ring

import (
	"fmt"
	"math"
	"slices"
	"testing"

	"stanchion/api"
	"stanchion/lock"
)

// step is one that waits for another one.
type step struct{ from, to int }

// steps are locks of which these are all the steps: each has a key of its own, that one holds and the other one wants.
func steps(all ...step) api.Locks {
	var l api.Locks
	for i, s := range all {
		w := one(api.ModeX, fmt.Sprintf("%d.", i))
		l.Held = append(l.Held, hold(s.to, w))
		l.Queue = append(l.Queue, claim(s.from, w, uint64(i)))
	}
	return l
}

// wantAfter: what After answers; what is handed in stays as it is.
func wantAfter(t *testing.T, l api.Locks, txn int, want ...int) {
	t.Helper()
	in := roomyLocks(l)
	if got := After(in, txn); !slices.Equal(got, want) {
		t.Errorf("After(%s, %d): %d; want %d", show(l), txn, got, want)
	}
	wantUntouched(t, in, l, "After")
}

// wantReach: what Reach answers.
func wantReach(t *testing.T, l api.Locks, txn int, want ...int) {
	t.Helper()
	in := roomyLocks(l)
	if got := Reach(in, txn); !slices.Equal(got, want) {
		t.Errorf("Reach(%s, %d): %d; want %d", show(l), txn, got, want)
	}
	wantUntouched(t, in, l, "Reach")
}

// wantRing: what Ring answers, and Victim, that is the last one of it.
func wantRing(t *testing.T, l api.Locks, txn int, want ...int) {
	t.Helper()
	in := roomyLocks(l)
	if got := Ring(in, txn); !slices.Equal(got, want) {
		t.Errorf("Ring(%s, %d): %d; want %d", show(l), txn, got, want)
	}
	wantUntouched(t, in, l, "Ring")
	last := 0
	if len(want) > 0 {
		last = want[len(want)-1]
	}
	if got, is := Victim(in, txn); got != last || is != (len(want) > 0) {
		t.Errorf("Victim(%s, %d): %d, %t; want %d", show(l), txn, got, is, last)
	}
	wantUntouched(t, in, l, "Victim")
}

// TestP11_1After: one that waits waits for all that hold what clashes with its claim, and for all whose claims stand ahead of it and clash.
func TestP11_1After(t *testing.T) {
	l := locks(
		helds(hold(9, sa), hold(2, sb), hold(9, sac), hold(1, one(1, "d")), hold(5, sc)),
		claims(claim(5, xa, 4), claim(3, sa, 3), claim(8, xc, 2), claim(2, xb, 1), claim(7, from(1, "", ""), 0), claim(6, one(2, "d"), 9), claim(4, one(2, "e"), 9)),
	)
	for txn, want := range [][]int{
		1:  nil,       // It holds, and doesn't wait.
		2:  {9},       // What it holds itself isn't in its way, nor who waits behind it.
		3:  {5},       // Who reads what it wants to read isn't in its way.
		4:  {7},       // Who waits to read all is; nobody holds e.
		5:  {9},       // Who holds it twice comes once; nobody is ahead.
		6:  {1, 7},    // Who holds, and who waits.
		7:  {2, 5, 8}, // All that want to write, ahead of it: rising.
		8:  {5},       // Who holds it, and waits, too.
		9:  nil,       // It holds what all want.
		10: nil,       // It isn't there.
	} {
		wantAfter(t, l, txn, want...)
	}
	wantAfter(t, l, math.MaxInt)
	wantAfter(t, l, -1)
	wantAfter(t, api.Locks{}, 1)
}

// TestP11_1AfterPlace: a claim waits for those that stand ahead of its own place alone.
func TestP11_1AfterPlace(t *testing.T) {
	var l api.Locks
	var ahead []int
	for i := range 30 {
		l.Queue = append(l.Queue, claim(30-i, xa, 5))
	}
	for txn := 30; txn > 0; txn-- {
		wantAfter(t, l, txn, ahead...)
		ahead = slices.Insert(ahead, 0, txn)
	}
	wantAfter(t, locks(helds(hold(40, sa)), l.Queue), 29, 30, 40)
	wantAfter(t, locks(nil, claims(claim(1, xa, 1), claim(2, sa, 2), claim(3, sa, 3), claim(4, xa, 4))), 3, 1)
	wantAfter(t, locks(nil, claims(claim(1, xa, 1), claim(2, sa, 2), claim(3, sa, 3), claim(4, xa, 4))), 4, 1, 2, 3)
}

// TestP11_1AfterClaims: of many claims of one, which no Ask makes, each counts at its own place; those for which it waits come once.
func TestP11_1AfterClaims(t *testing.T) {
	l := locks(
		helds(hold(9, xa), hold(4, xb), hold(9, sc)),
		claims(claim(1, sb, 5), claim(7, xc, 5), claim(1, sa, 5), claim(5, xa, 5), claim(1, xc, 5), claim(1, xac, 5), claim(6, xac, 5)),
	)
	wantAfter(t, l, 1, 4, 5, 7, 9)
	wantAfter(t, locks(l.Held, l.Queue[:1]), 1, 4)
	wantAfter(t, locks(l.Held, l.Queue[:3]), 1, 4, 9)
	wantAfter(t, locks(l.Held, l.Queue[:5]), 1, 4, 7, 9)
	wantAfter(t, l, 5, 1, 9)
	wantAfter(t, l, 6, 1, 4, 5, 9)
	wantAfter(t, l, 7, 9)
}

// TestP11_1AfterWild: numbers that no transaction has, and spans that may not be, count as the blockers tell.
func TestP11_1AfterWild(t *testing.T) {
	l := locks(
		helds(hold(0, xa), hold(math.MinInt, sa), hold(math.MaxInt, from(3, "a", ""))),
		claims(claim(-7, xa, 5), claim(0, from(2, "b", "a"), 5), claim(math.MinInt, xa, 5), claim(3, from(0, "a", "b"), 5)),
	)
	wantAfter(t, l, -7, math.MinInt, 0, math.MaxInt)
	wantAfter(t, l, 0)
	wantAfter(t, l, math.MinInt, -7, 0, math.MaxInt)
	wantAfter(t, l, 3, math.MinInt, -7, 0)
	wantAfter(t, l, math.MaxInt)
}

// TestP11_1Reach: all to which a way leads, however long; oneself, if it leads back.
func TestP11_1Reach(t *testing.T) {
	for _, x := range []struct {
		l    api.Locks
		txn  int
		want []int
	}{
		{api.Locks{}, 1, nil},
		{locks(helds(hold(1, xa)), nil), 1, nil},
		// One step, and not against it.
		{steps(step{1, 2}), 1, []int{2}},
		{steps(step{1, 2}), 2, nil},
		{steps(step{1, 2}), 3, nil},
		// Two of them, that aren't in the order of their numbers.
		{steps(step{2, 3}, step{3, 1}), 2, []int{1, 3}},
		{steps(step{2, 3}, step{3, 1}), 3, []int{1}},
		{steps(step{2, 3}, step{3, 1}), 1, nil},
		// Ways that part, and meet again, one shorter than the other one.
		{steps(step{1, 2}, step{1, 3}, step{2, 4}, step{3, 4}, step{4, 5}), 1, []int{2, 3, 4, 5}},
		{steps(step{5, 1}, step{5, 4}, step{4, 3}, step{3, 1}, step{1, 2}), 5, []int{1, 2, 3, 4}},
		// Ways that meet, gone from one of them.
		{steps(step{1, 3}, step{2, 3}, step{3, 4}), 1, []int{3, 4}},
		// A ring: oneself is reached.
		{steps(step{1, 2}, step{2, 1}), 1, []int{1, 2}},
		{steps(step{1, 2}, step{2, 3}, step{3, 1}), 2, []int{1, 2, 3}},
		// Into a ring, out of it, and past it.
		{steps(step{4, 1}, step{1, 2}, step{2, 1}), 4, []int{1, 2}},
		{steps(step{1, 2}, step{2, 1}, step{2, 7}, step{7, 8}), 1, []int{1, 2, 7, 8}},
		{steps(step{1, 2}, step{2, 1}, step{3, 4}), 3, []int{4}},
		// A ring that is gone round twice ahead of the last one.
		{steps(step{1, 2}, step{2, 3}, step{3, 2}, step{3, 4}, step{4, 3}, step{4, 5}), 1, []int{2, 3, 4, 5}},
		// Numbers that no transaction has.
		{steps(step{0, -1}, step{-1, math.MinInt}, step{math.MinInt, math.MaxInt}, step{math.MaxInt, 0}), 0, []int{math.MinInt, -1, 0, math.MaxInt}},
	} {
		wantReach(t, x.l, x.txn, x.want...)
	}
}

// chain are steps from 1 on, up to n; back: the last one waits for 1.
func chain(n int, back bool) api.Locks {
	var all []step
	for i := 1; i < n; i++ {
		all = append(all, step{i, i + 1})
	}
	if back {
		all = append(all, step{n, 1})
	}
	return steps(all...)
}

// upTo are the numbers from one on up to another one.
func upTo(from, to int) []int {
	var all []int
	for i := from; i <= to; i++ {
		all = append(all, i)
	}
	return all
}

// TestP11_1ReachLong: long ways, of odd length and of even, with an end and without.
func TestP11_1ReachLong(t *testing.T) {
	for _, n := range []int{2, 3, 4, 5, 60, 61} {
		for _, txn := range []int{1, 2, n - 1, n} {
			wantReach(t, chain(n, false), txn, upTo(txn+1, n)...)
			wantReach(t, chain(n, true), txn, upTo(1, n)...)
			wantRing(t, chain(n, false), txn)
			wantRing(t, chain(n, true), txn, upTo(1, n)...)
		}
	}
}

// TestP11_2Ring: all that one reaches, and that reach it; nothing, where it doesn't reach itself, though it waits for those in a ring.
func TestP11_2Ring(t *testing.T) {
	two := steps(step{1, 2}, step{2, 1})
	tail := steps(step{3, 1}, step{1, 2}, step{2, 1}, step{2, 4}, step{4, 5})
	eight := steps(step{2, 5}, step{5, 2}, step{5, 9}, step{9, 7}, step{7, 5})
	apart := steps(step{1, 2}, step{2, 1}, step{2, 3}, step{3, 4}, step{4, 3})
	chord := steps(step{1, 2}, step{2, 3}, step{3, 4}, step{4, 1}, step{2, 1}, step{1, 3})
	wild := steps(step{0, -5}, step{-5, 0}, step{math.MinInt, -3}, step{-3, math.MinInt}, step{math.MaxInt, 1}, step{1, math.MaxInt})
	for _, x := range []struct {
		l    api.Locks
		txn  int
		want []int
	}{
		{api.Locks{}, 1, nil},
		{api.Locks{}, 0, nil},
		{two, 1, []int{1, 2}},
		{two, 2, []int{1, 2}},
		{two, 3, nil},
		{tail, 1, []int{1, 2}},
		{tail, 2, []int{1, 2}},
		{tail, 3, nil},
		{tail, 4, nil},
		{tail, 5, nil},
		{eight, 2, []int{2, 5, 7, 9}},
		{eight, 5, []int{2, 5, 7, 9}},
		{eight, 7, []int{2, 5, 7, 9}},
		{eight, 9, []int{2, 5, 7, 9}},
		{apart, 1, []int{1, 2}},
		{apart, 2, []int{1, 2}},
		{apart, 3, []int{3, 4}},
		{apart, 4, []int{3, 4}},
		{chord, 1, []int{1, 2, 3, 4}},
		{chord, 4, []int{1, 2, 3, 4}},
		{wild, 0, []int{-5, 0}},
		{wild, -5, []int{-5, 0}},
		{wild, -3, []int{math.MinInt, -3}},
		{wild, math.MinInt, []int{math.MinInt, -3}},
		{wild, 1, []int{1, math.MaxInt}},
		{wild, math.MaxInt, []int{1, math.MaxInt}},
	} {
		wantRing(t, x.l, x.txn, x.want...)
	}
}

// TestP11_2RingLocks: rings of those that read and want to write, of spans that overlap, and by way of a claim that stands ahead.
func TestP11_2RingLocks(t *testing.T) {
	// Both read, and want to write.
	l := locks(helds(hold(1, sa), hold(2, sa)), claims(claim(2, xa, 5), claim(1, xa, 6)))
	wantRing(t, l, 1, 1, 2)
	wantRing(t, l, 2, 1, 2)
	// One alone wants to.
	l = locks(helds(hold(1, sa), hold(2, sa)), claims(claim(2, xa, 5)))
	wantRing(t, l, 1)
	wantRing(t, l, 2)
	// 3 wants to read what 2 wants to write, ahead of it; 1 reads that, and wants what 3 holds.
	l = locks(helds(hold(1, sa), hold(3, sb)), claims(claim(2, xa, 5), claim(3, sa, 6), claim(1, xb, 7)))
	wantRing(t, l, 1, 1, 2, 3)
	wantRing(t, l, 2, 1, 2, 3)
	wantRing(t, l, 3, 1, 2, 3)
	// Without the one between, none waits in a ring.
	l = locks(l.Held, l.Queue[1:])
	wantRing(t, l, 1)
	wantRing(t, l, 3)
	// A span that overlaps the keys of both; one that ends ahead of the second one.
	l = locks(helds(hold(4, xb), hold(6, xc)), claims(claim(6, sac, 5), claim(4, from(1, "b\x00", ""), 6)))
	wantRing(t, l, 4, 4, 6)
	l = locks(l.Held, claims(claim(6, from(1, "a", "b"), 5), l.Queue[1]))
	wantRing(t, l, 4)
	// Only claims: who waits behind waits for those ahead, and never the other way round.
	l = locks(nil, claims(claim(1, xa, 5), claim(2, xa, 5), claim(3, xac, 5)))
	for txn := range 4 {
		wantRing(t, l, txn)
	}
	// Claims of each on both sides of the other's, which no Ask makes.
	l = locks(nil, claims(claim(1, xa, 5), claim(2, xa, 5), claim(1, xa, 5)))
	wantRing(t, l, 1, 1, 2)
	wantRing(t, l, 2, 1, 2)
}

// TestP11_2Victim: the greatest of the ring, not of all that wait, nor the one that is asked for, the eldest, or the last; 0 may be one.
func TestP11_2Victim(t *testing.T) {
	l := steps(step{9, 3}, step{3, 5}, step{5, 1}, step{1, 3}, step{5, 8}, step{-4, 0}, step{0, -4}, step{-2, -3}, step{-3, -2})
	for _, x := range []struct {
		txn, want int
		is        bool
	}{
		{3, 5, true},
		{5, 5, true},
		{1, 5, true},
		{9, 0, false},
		{8, 0, false},
		{7, 0, false},
		{0, 0, true},
		{-4, 0, true},
		{-2, -2, true},
		{-3, -2, true},
		{math.MinInt, 0, false},
	} {
		if got, is := Victim(l, x.txn); got != x.want || is != x.is {
			t.Errorf("Victim(%s, %d): %d, %t; want %d, %t", show(l), x.txn, got, is, x.want, x.is)
		}
	}
}

// TestR3: an answer is its own, whatever becomes of another one, and of the locks that were handed in.
func TestR3(t *testing.T) {
	l := roomyLocks(steps(step{1, 2}, step{2, 3}, step{3, 1}, step{1, 3}))
	was := copied(l)
	for _, call := range []func(api.Locks, int) []int{After, Reach, Ring} {
		first, want := call(l, 1), slices.Clone(call(l, 1))
		for i := range first[:cap(first)] {
			first[:cap(first)][i] = 99
		}
		again := call(l, 1)
		for i := range l.Held {
			l.Held[i].Txn, l.Queue[i].Txn = 55, 56
		}
		if !slices.Equal(again, want) {
			t.Errorf("%d; want %d", again, want)
		}
		copy(l.Held, was.Held)
		copy(l.Queue, was.Queue)
	}
	wantUntouched(t, l, was, "all of them")
}

// TestExample: the chapter's.
func TestExample(t *testing.T) {
	l, _ := lock.Ask(api.Locks{}, 1, xa, 5)
	l, _ = lock.Ask(l, 2, xb, 5)
	l, _ = lock.Ask(l, 1, xb, 5)
	wantRing(t, l, 1)
	wantAfter(t, l, 1, 2)
	l, _ = lock.Ask(l, 2, xa, 5)
	for txn := 1; txn <= 2; txn++ {
		wantAfter(t, l, txn, 3-txn)
		wantReach(t, l, txn, 1, 2)
		wantRing(t, l, txn, 1, 2)
	}
}
