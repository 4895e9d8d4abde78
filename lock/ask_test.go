package lock

import (
	"math"
	"testing"

	"stanchion/api"
)

// crowd is a queue of n claims to write a, of the transactions 101 and so on.
func crowd(n int) []api.Claim {
	var q []api.Claim
	for i := range n {
		q = append(q, claim(101+i, xa, uint64(i)))
	}
	return q
}

// TestP10_2Given: what nobody stands in the way of is given, and stands behind all that is held: who reads beside who reads, keys beside keys, a transaction beside itself.
func TestP10_2Given(t *testing.T) {
	for _, x := range []struct {
		l   api.Locks
		txn int
		w   api.Want
	}{
		{api.Locks{}, 1, xa},
		{api.Locks{}, math.MaxInt, from(2, "", "")},
		{locks(helds(hold(2, sa)), nil), 1, sa},
		{locks(helds(hold(2, sa), hold(3, sac)), nil), 1, sac},
		{locks(helds(hold(2, xa)), nil), 1, xb},
		{locks(helds(hold(2, xac)), nil), 1, xc},
		{locks(helds(hold(2, from(2, "c", ""))), nil), 1, xac},
		// More than it holds: to write what it reads, more keys, others.
		{locks(helds(hold(1, sa)), nil), 1, xa},
		{locks(helds(hold(1, xa)), nil), 1, sac},
		{locks(helds(hold(1, xa)), nil), 1, xac},
		{locks(helds(hold(1, xa), hold(2, sc)), nil), 1, xb},
		// No one span of it covers what two do.
		{locks(helds(hold(1, sa), hold(1, from(1, "a\x00", "c"))), nil), 1, sac},
		// What another one holds covers nothing of it.
		{locks(helds(hold(2, sac)), nil), 1, sa},
		// Claims that want what is read, to read, or other keys.
		{locks(helds(hold(2, xb)), claims(claim(3, sac, 5), claim(4, sb, 5))), 1, sa},
		{locks(helds(hold(2, xb)), claims(claim(3, xb, 5))), 1, xa},
		// However many wait.
		{locks(helds(hold(2, xa)), crowd(15)), 1, xb},
		{locks(helds(hold(2, xa)), crowd(16)), 1, xb},
		{locks(helds(hold(2, xa)), crowd(17)), 2, xb},
	} {
		for _, until := range []uint64{0, 5, math.MaxUint64} {
			wantAsk(t, x.l, x.txn, x.w, until, locks(append(copied(x.l).Held, hold(x.txn, x.w)), x.l.Queue), api.OK)
		}
	}
}

// TestP10_2Covered: what a span of it covers needs no other one: nothing changes, whoever waits for that.
func TestP10_2Covered(t *testing.T) {
	for _, x := range []struct {
		l   api.Locks
		txn int
		w   api.Want
	}{
		{locks(helds(hold(1, sa)), nil), 1, sa},
		{locks(helds(hold(1, xa)), nil), 1, xa},
		{locks(helds(hold(1, xa)), nil), 1, sa},
		{locks(helds(hold(1, sac)), nil), 1, sa},
		{locks(helds(hold(1, sac)), nil), 1, from(1, "aa", "b\x00")},
		{locks(helds(hold(1, from(2, "", ""))), nil), 1, from(2, "a", "")},
		{locks(helds(hold(1, sa), hold(2, sa), hold(1, xb), hold(3, xc)), nil), 1, xb},
		{locks(helds(hold(2, sa), hold(1, sa)), claims(claim(3, xa, 5))), 1, sa},
		{locks(helds(hold(1, sa)), crowd(16)), 1, sa},
		{locks(helds(hold(1, xa)), crowd(17)), 1, sa},
		// By the words alone: locks that Ask doesn't come to.
		{locks(helds(hold(2, xa), hold(1, xa)), nil), 1, xa},
		{locks(helds(hold(2, xa), hold(1, from(0, "", ""))), nil), 1, sa},
	} {
		wantAsk(t, x.l, x.txn, x.w, 5, x.l, api.OK)
	}
}

// TestP10_2Waits: who is in the way of by one that holds, or by one that waits, waits behind all, until its time.
func TestP10_2Waits(t *testing.T) {
	for _, x := range []struct {
		l   api.Locks
		txn int
		w   api.Want
	}{
		{locks(helds(hold(2, xa)), nil), 1, sa},
		{locks(helds(hold(2, sa)), nil), 1, xa},
		{locks(helds(hold(2, xa)), nil), math.MaxInt, xa},
		{locks(helds(hold(2, xa)), nil), 1, sac},
		{locks(helds(hold(2, sac)), nil), 1, xb},
		{locks(helds(hold(2, xb)), nil), 1, from(1, "", "")},
		// To write what another one reads, too.
		{locks(helds(hold(1, sa), hold(2, sa)), nil), 1, xa},
		// Who holds another thing waits as well.
		{locks(helds(hold(1, xa), hold(2, xb)), nil), 1, xb},
		// Not past one that waits, whoever holds.
		{locks(helds(hold(2, sa)), claims(claim(3, xa, 1))), 1, sa},
		{locks(helds(hold(2, sa)), claims(claim(3, xac, 1))), 1, sb},
		{locks(helds(hold(2, xa)), claims(claim(4, sa, 9), claim(3, sac, 1))), 1, xb},
		{locks(helds(hold(2, sa)), claims(claim(3, xa, 1))), 2, xa},
		{locks(helds(hold(2, xa)), crowd(15)), 1, sa},
	} {
		for _, until := range []uint64{0, 5, math.MaxUint64} {
			wantAsk(t, x.l, x.txn, x.w, until, locks(x.l.Held, append(copied(x.l).Queue, claim(x.txn, x.w, until))), api.ErrWait)
		}
	}
}

// TestP10_2Wrong: numbers and spans that may not be, whatever is held.
func TestP10_2Wrong(t *testing.T) {
	for _, l := range []api.Locks{
		{},
		locks(helds(hold(1, from(2, "", "")), hold(0, from(2, "", ""))), nil),
		locks(helds(hold(2, from(2, "", ""))), claims(claim(1, xa, 5), claim(0, xa, 5), claim(-1, xa, 5))),
		locks(helds(hold(2, xa)), crowd(16)),
	} {
		for _, txn := range []int{0, -1, math.MinInt, -1 << 32} {
			wantAsk(t, l, txn, xa, 5, l, api.ErrArg)
			wantAsk(t, l, txn, from(0, "", ""), 5, l, api.ErrArg)
		}
		for _, w := range []api.Want{
			{}, from(0, "a", "b"), from(3, "a", "b"), from(-1, "a", ""), from(1<<32+1, "a", "b"), from(math.MaxInt, "a", "b"),
			from(1, "b", "a"), from(2, "a", "a"), from(2, "a\x00", "a"), from(1, "9", "10"),
		} {
			wantAsk(t, l, 1, w, 5, l, api.ErrArg)
			wantAsk(t, l, 3, w, 5, l, api.ErrArg)
		}
	}
}

// TestP10_2There: who waits can't ask, whatever for: not for what it holds, for what it waits for, nor for what is free.
func TestP10_2There(t *testing.T) {
	for _, queue := range [][]api.Claim{
		claims(claim(1, xb, 5)),
		claims(claim(3, xb, 5), claim(1, xb, 5), claim(4, xb, 5)),
		append(claims(claim(1, xb, 5)), crowd(15)...),
		append(crowd(16), claim(1, xb, 5)),
	} {
		l := locks(helds(hold(1, sa), hold(2, sb)), queue)
		for _, w := range []api.Want{sa, xa, sb, xb, sc, xc, from(2, "", "")} {
			wantAsk(t, l, 1, w, 9, l, api.ErrThere)
		}
	}
}

// TestP10_2Busy: of 16 claims none may come behind: not by one more, nor where there are more already.
func TestP10_2Busy(t *testing.T) {
	for _, n := range []int{16, 17, 40} {
		l := locks(helds(hold(2, xa), hold(1, sb)), crowd(n))
		for _, txn := range []int{1, 3, math.MaxInt} {
			wantAsk(t, l, txn, sa, 5, l, api.ErrBusy)
			wantAsk(t, l, txn, from(2, "", ""), 0, l, api.ErrBusy)
		}
	}
	// Only the last one of too many is in the way.
	l := locks(helds(hold(2, xa)), append(crowd(16), claim(3, xb, 5)))
	wantAsk(t, l, 1, xb, 5, l, api.ErrBusy)
	l = locks(helds(hold(1, xa)), nil)
	for i := range 20 {
		k, e := Ask(l, 2+i, xa, 5)
		if want := map[bool]api.Errno{true: api.ErrWait, false: api.ErrBusy}[i < 16]; e != want || len(k.Queue) != min(i+1, 16) {
			t.Fatalf("the claim %d: %d, and %d wait", i+1, e, len(k.Queue))
		}
		l = k
	}
	l, _ = Free(l, 5)
	if l, e := Ask(l, 40, xa, 5); e != api.ErrWait || len(l.Queue) != 16 {
		t.Errorf("one gone, one come: %d, and %d wait", e, len(l.Queue))
	}
}

// TestP10_2Order: of several errors the first one is told.
func TestP10_2Order(t *testing.T) {
	l := locks(helds(hold(1, sa), hold(2, xb), hold(4, sa)), append(claims(claim(1, xb, 5)), crowd(15)...))
	for _, x := range []struct {
		txn int
		w   api.Want
		err api.Errno
	}{
		{0, from(1, "b", "a"), api.ErrArg},
		{1, from(1, "b", "a"), api.ErrArg},
		{1, from(0, "a", "a\x00"), api.ErrArg},
		{1, sa, api.ErrThere},
		{1, xb, api.ErrThere},
		{4, sa, api.OK},
		{4, xa, api.ErrBusy},
		{4, xb, api.ErrBusy},
	} {
		wantAsk(t, l, x.txn, x.w, 5, l, x.err)
	}
}
