package engine

import (
	"fmt"
	"math"
	"slices"
	"testing"

	"stanchion/api"
)

// full is a text of 32 bytes, as many as a key has at the most.
var full = long(32)

// fits are operations that may be, at the edges; what doesn't count for their kind is wild.
func fits() []api.Op {
	return []api.Op{
		get("a"), get("\x00"), get(full),
		{Kind: 1, Key: "a", Val: long(65), Lo: long(33), Hi: long(33), Most: -1},
		put("a", ""), put(full, long(64)), put("\xff", "\x00"),
		{Kind: 2, Key: "a", Val: "1", Lo: long(33), Hi: long(33), Most: 17},
		del("a"), del(full),
		{Kind: 3, Key: "a", Val: long(65), Lo: long(33), Hi: long(33), Most: math.MinInt},
		scan("", "", 1), scan(full, "", 16), scan("", full, 16), scan("a", full+"", 2), scan("\x00", "\x00\x00", 1),
		{Kind: 4, Key: long(33), Val: long(65), Most: 5},
	}
}

// misfits are operations that may not be.
func misfits() []api.Op {
	l := []api.Op{
		{}, get(""), get(long(33)), get(long(70000)),
		put("", "1"), put(long(33), ""), put("a", long(65)), put(full, long(70000)),
		del(""), del(long(33)), {Kind: 3, Val: "a", Lo: "a", Hi: "a", Most: 1},
		scan("", "", 0), scan("", "", 17), scan("a", "b", -1), scan("a", "b", math.MaxInt), scan("a", "b", math.MinInt),
		scan(long(33), "", 1), scan("", long(33), 1), scan(long(33), long(33), 1),
	}
	for _, kind := range []int{-1, 7, 8, 11, -6, math.MaxInt, math.MinInt, 1 << 32, 1<<32 + 1} {
		l = append(l, api.Op{Kind: kind, Key: "a", Val: "b", Lo: "a", Hi: "b", Most: 1})
	}
	return l
}

// TestP13_3May: whether an operation may be; where it may not, nothing is held by it.
func TestP13_3May(t *testing.T) {
	for _, op := range fits() {
		g := fresh(t, "t")
		g.e, _ = Ask(g.e, 1, put("a", "9"))
		k, out := Ask(g.e, 1, op)
		if len(out) != 1 || out[0].Err != api.OK || out[0].Over || out[0].Txn != 1 || len(k.T) != 1 {
			t.Errorf("Ask of %+v: %+v", op, out)
		}
	}
	for _, op := range misfits() {
		g := fresh(t, "t")
		g.ask(1, put("a", "9"), fine(1))
		was := g.e
		g.ask(1, op, fails(1, api.ErrArg))
		g.want(was)
	}
	for _, end := range []api.Op{{Kind: 5, Key: long(33), Val: long(65), Lo: long(33), Most: -1}, {Kind: 6, Key: long(33), Hi: long(33), Most: 99}} {
		g := fresh(t, "t")
		g.ask(1, end, over(1, api.OK))
	}
}

// TestP13_3Wrong: who isn't there, who waits, what may not be: in this order, and nothing is changed.
func TestP13_3Wrong(t *testing.T) {
	g := fresh(t, "t", "u")
	g.ask(1, put("a", "1"), fine(1))
	g.ask(2, get("a"))
	was := g.e
	all := append(slices.Concat(fits(), misfits()), commit, abort)
	for _, op := range all {
		for _, id := range []int{0, 3, -1, 99, math.MaxInt, math.MinInt} {
			g.ask(id, op, fails(id, api.ErrNone))
			g.want(was)
		}
		g.ask(2, op, fails(2, api.ErrState))
		g.want(was)
	}
	none := on(t, api.Engine{})
	for _, op := range all {
		none.ask(0, op, fails(0, api.ErrNone))
	}
	none.want(api.Engine{})
}

// TestP13_3Span: what each kind of operation holds.
func TestP13_3Span(t *testing.T) {
	for _, x := range []struct {
		op api.Op
		w  api.Want
	}{
		{get("a"), one(1, "a")},
		{get(full), one(1, full)},
		{api.Op{Kind: 1, Key: "a", Lo: "c", Hi: "d"}, one(1, "a")},
		{put("a", "1"), one(2, "a")},
		{put("\xff", "1"), one(2, "\xff")},
		{del("a"), one(2, "a")},
		{api.Op{Kind: 3, Key: "a", Val: "b", Lo: "c"}, one(2, "a")},
		{scan("", "", 1), from(1, "", "")},
		{scan("a", "", 16), from(1, "a", "")},
		{scan("", "b", 2), from(1, "", "b")},
		{api.Op{Kind: 4, Key: "x", Lo: "a", Hi: "b", Most: 2}, from(1, "a", "b")},
	} {
		g := fresh(t, "t")
		g.e, _ = Ask(g.e, 1, x.op)
		g.wantHeld(hold(1, x.w))
		g.wantQueue()
	}
}

// TestP13_3SpanWrong: a scan may be, and its span may not: that is an error as others are, and the transaction goes on.
func TestP13_3SpanWrong(t *testing.T) {
	g := fresh(t, "t")
	g.ask(1, put("a", "1"), fine(1))
	was := g.e
	for _, op := range []api.Op{scan("b", "a", 1), scan("a", "a", 1), scan("\x00\x00", "\x00", 16), scan(full, "a", 2)} {
		g.ask(1, op, fails(1, api.ErrArg))
		g.want(was)
	}
	g.ask(1, scan("a", "a\x00", 1), read(1, "a", "1"))
}

// TestP13_3Get: what there is, with what the transaction wrote itself over it.
func TestP13_3Get(t *testing.T) {
	g := with(t, []string{"a", "1", "b", "2", "c", "", "e", "5"}, "t")
	g.ask(2, get("a"), got(2, "1"))
	g.ask(2, get("c"), got(2, ""))
	g.ask(2, get("d"), fine(2))
	g.ask(2, put("a", "9"), fine(2))
	g.ask(2, put("d", ""), fine(2))
	g.ask(2, del("b"), fine(2))
	g.ask(2, del("z"), fine(2))
	g.ask(2, get("a"), got(2, "9"))
	g.ask(2, get("b"), fine(2))
	g.ask(2, get("d"), got(2, ""))
	g.ask(2, get("z"), fine(2))
	g.ask(2, get("e"), got(2, "5"))
	g.ask(2, put("b", "8"), fine(2))
	g.ask(2, get("b"), got(2, "8"))
	g.wantData("a", "1", "b", "2", "c", "", "e", "5")
}

// TestP13_3Scan: likewise; at most so many rows.
func TestP13_3Scan(t *testing.T) {
	g := with(t, []string{"a", "1", "b", "2", "c", "3", "e", "5"}, "t")
	g.ask(2, scan("", "", 16), read(2, "a", "1", "b", "2", "c", "3", "e", "5"))
	g.ask(2, scan("", "", 2), read(2, "a", "1", "b", "2"))
	g.ask(2, scan("b", "e", 9), read(2, "b", "2", "c", "3"))
	g.ask(2, scan("d", "", 1), read(2, "e", "5"))
	g.ask(2, scan("c1", "d", 16), read(2))
	g.ask(2, put("a", "9"), fine(2))
	g.ask(2, put("d", "4"), fine(2))
	g.ask(2, del("b"), fine(2))
	g.ask(2, scan("", "", 16), read(2, "a", "9", "c", "3", "d", "4", "e", "5"))
	g.ask(2, scan("b", "", 1), read(2, "c", "3"))
	g.ask(2, scan("c", "e", 2), read(2, "c", "3", "d", "4"))
	g.wantData("a", "1", "b", "2", "c", "3", "e", "5")
}

// TestP13_3ScanMost: as many rows as there may be at the most.
func TestP13_3ScanMost(t *testing.T) {
	var all []string
	for i := range 20 {
		all = append(all, fmt.Sprintf("k%02d", i), fmt.Sprint(i))
	}
	g := with(t, all, "t")
	for _, n := range []int{1, 2, 15, 16} {
		g.ask(2, scan("", "", n), read(2, all[:2*n]...))
		g.ask(2, scan("k03", "k19", n), read(2, all[6:6+2*n]...))
	}
}

// TestP13_3Write: each write stands in its place; what doesn't count isn't kept.
func TestP13_3Write(t *testing.T) {
	g := with(t, []string{"b", "2"}, "t", "u")
	g.ask(2, put("b", "1"), fine(2))
	g.wantTxn(api.Txn{Id: 2, Token: "t", Writes: []api.Write{sets("b", "1")}})
	g.ask(2, api.Op{Kind: 3, Key: "c", Val: "val", Lo: "lo", Hi: "hi", Most: 3}, fine(2))
	g.ask(2, api.Op{Kind: 2, Key: "a", Val: "val", Lo: "lo", Hi: "hi", Most: 3}, fine(2))
	g.wantTxn(api.Txn{Id: 2, Token: "t", Writes: []api.Write{sets("a", "val"), sets("b", "1"), drops("c")}})
	g.ask(2, del("b"), fine(2))
	g.ask(2, put("c", "3"), fine(2))
	g.wantTxn(api.Txn{Id: 2, Token: "t", Writes: []api.Write{sets("a", "val"), drops("b"), sets("c", "3")}})
	g.wantTxn(api.Txn{Id: 3, Token: "u"})
	g.ask(2, commit, over(2, api.OK))
	g.wantData("a", "val", "c", "3")
}

// TestP13_3BigMany: as many writes as there may be, and one more: it is none, and the transaction goes on.
func TestP13_3BigMany(t *testing.T) {
	g := fresh(t, "t")
	for i := range 24 {
		g.ask(1, []api.Op{put(fmt.Sprint("k", i), ""), del(fmt.Sprint("k", i))}[i%2], fine(1))
	}
	was := g.e.T[0]
	g.ask(1, put("l", ""), fails(1, api.ErrBig))
	g.ask(1, del("a"), fails(1, api.ErrBig))
	g.ask(1, del("a"), fails(1, api.ErrBig))
	g.wantTxn(was)
	g.wantHeld(append(g.e.L.Held[:24:24], hold(1, one(2, "l")), hold(1, one(2, "a")))...)
	g.ask(1, get("l"), fine(1))
	g.ask(1, put("k3", "3"), fine(1))
	g.ask(1, del("k4"), fine(1))
	g.ask(1, get("k3"), got(1, "3"))
	g.ask(1, put("a", ""), fails(1, api.ErrBig))
	g.ask(1, commit, over(1, api.OK))
	if n := len(g.e.X.S.Data); n != 12 {
		t.Errorf("%d pairs", n)
	}
}

// TestP13_3BigSize: as many bytes as there may be, and one more.
func TestP13_3BigSize(t *testing.T) {
	g := fresh(t, "t")
	for i := range 5 {
		g.ask(1, put(fmt.Sprint(i)+full[1:], long(64)), fine(1))
	}
	// 480 bytes up to here: 32 more are left.
	was := g.e.T[0]
	g.ask(1, put("a", full), fails(1, api.ErrBig))
	g.ask(1, put(full, "b"), fails(1, api.ErrBig))
	g.wantTxn(was)
	g.ask(1, del(full), fine(1))
	g.ask(1, put(full, ""), fine(1))
	g.ask(1, put(full, "b"), fails(1, api.ErrBig))
	g.ask(1, del("b"), fails(1, api.ErrBig))
	g.ask(1, put("1"+full[1:], long(63)), fine(1))
	g.ask(1, put(full, "b"), fine(1))
	g.ask(1, get(full), got(1, "b"))
	g.ask(1, del("2"+full[1:]), fine(1))
	g.ask(1, put("2"+full[1:], long(64)), fine(1))
	g.ask(1, put("1"+full[1:], long(64)), fails(1, api.ErrBig))
	g.ask(1, get("1"+full[1:]), got(1, long(63)))
	g.ask(1, commit, over(1, api.OK))
}

// TestP13_3BigLater: what waited may be too much, too, when it is done.
func TestP13_3BigLater(t *testing.T) {
	g := fresh(t, "t", "u", "v")
	for i := range 24 {
		g.ask(1, put(fmt.Sprint("k", i), ""), fine(1))
	}
	g.ask(2, put("x", ""), fine(2))
	was := g.e.T[0]
	g.ask(1, put("x", ""))
	g.ask(2, commit, over(2, api.OK), fails(1, api.ErrBig))
	g.wantTxn(was)
	g.ask(3, get("x"))
	g.ask(1, commit, over(1, api.OK), api.Done{Txn: 3, Found: true})
}

// TestP13_3Until: a claim waits up to five ticks, or to the end of time.
func TestP13_3Until(t *testing.T) {
	for _, x := range []struct{ now, until uint64 }{
		{0, 5}, {1, 6}, {7, 12}, {1 << 63, 1<<63 + 5},
		{math.MaxUint64 - 6, math.MaxUint64 - 1}, {math.MaxUint64 - 5, math.MaxUint64}, {math.MaxUint64 - 4, math.MaxUint64}, {math.MaxUint64, math.MaxUint64},
	} {
		g := fresh(t, "t", "u")
		g.tick(x.now)
		g.ask(1, put("a", "1"), fine(1))
		g.ask(2, scan("", "b", 3))
		g.wantQueue(claim(2, from(1, "", "b"), x.until))
		g.wantTxn(api.Txn{Id: 2, Token: "u", Waits: true, Op: scan("", "b", 3)})
	}
}

// TestP13_3Held: what is held is held once, whichever covers it; others read with it, or wait.
func TestP13_3Held(t *testing.T) {
	g := with(t, []string{"a", "1"}, "t", "u", "v")
	g.ask(2, scan("a", "c", 9), read(2, "a", "1"))
	g.ask(2, get("a"), got(2, "1"))
	g.ask(2, scan("a1", "b", 1), read(2))
	g.ask(3, get("a"), got(3, "1"))
	g.ask(3, scan("a", "c", 2), read(3, "a", "1"))
	g.ask(2, put("d", "4"), fine(2))
	g.ask(2, get("d"), got(2, "4"))
	g.ask(2, del("d"), fine(2))
	g.wantHeld(hold(2, from(1, "a", "c")), hold(3, one(1, "a")), hold(3, from(1, "a", "c")), hold(2, one(2, "d")))
	g.ask(4, get("d"))
	g.ask(3, put("c", "3"), fine(3))
	g.wantLive(2, 3, 4)
}

// TestP13_3Lock: the errors of the locks that no calls come to are told; the transaction goes on.
func TestP13_3Lock(t *testing.T) {
	e := api.Engine{T: []api.Txn{{Id: 1, Token: "t"}, {Id: 0, Token: "u"}, {Id: -4, Token: "v"}, {Id: 2, Token: "w"}}}
	for i := range 16 {
		e.L.Queue = append(e.L.Queue, claim(20+i, one(2, "a"), 9))
	}
	e.L.Queue[3].Txn = 2
	for _, x := range []struct {
		id   int
		op   api.Op
		want api.Errno
	}{
		{1, put("a", "1"), api.ErrBusy},
		{1, get("a"), api.ErrBusy},
		{1, scan("", "", 9), api.ErrBusy},
		{0, get("b"), api.ErrArg},
		{-4, put("b", ""), api.ErrArg},
		{2, get("b"), api.ErrThere},
		{2, get("a"), api.ErrThere},
		{2, scan("b", "a", 3), api.ErrArg},
	} {
		g := on(t, e)
		g.ask(x.id, x.op, fails(x.id, x.want))
		g.want(e)
	}
	g := on(t, e)
	g.ask(1, put("b", "1"), fine(1))
}

// TestP13_3Wait: who waits has no answer till it goes on, whichever operation it is; what doesn't count for its kind is kept with it.
func TestP13_3Wait(t *testing.T) {
	for _, x := range []struct {
		op   api.Op
		want api.Done
	}{
		{get("b"), got(3, "9")},
		{put("b", "8"), fine(3)},
		{del("b"), fine(3)},
		{scan("", "", 2), read(3, "a", "1", "b", "9")},
		{api.Op{Kind: 3, Key: "b", Val: long(80), Lo: "q", Most: -7}, fine(3)},
		{api.Op{Kind: 1, Key: "b", Val: "v", Hi: "q", Most: 99}, got(3, "9")},
	} {
		g := with(t, []string{"a", "1", "b", "2"}, "t", "u")
		g.ask(2, put("b", "9"), fine(2))
		g.ask(3, get("a"), got(3, "1"))
		g.ask(3, x.op)
		g.wantTxn(api.Txn{Id: 3, Token: "u", Waits: true, Op: x.op})
		g.tick(4)
		g.ask(2, commit, over(2, api.OK), x.want)
		if u, _ := Find(g.e, 3); u.Waits || u.Op != (api.Op{}) {
			t.Errorf("it goes on, and still: %+v", u)
		}
		g.wantQueue()
		g.ask(3, commit, over(3, api.OK))
	}
}

// TestP13_3WaitTurn: nobody goes past who waits; all that can go on do, in their turn, each with what it sees then.
func TestP13_3WaitTurn(t *testing.T) {
	g := with(t, []string{"a", "1"}, "t", "u", "v", "w", "x", "y")
	g.ask(2, put("a", "2"), fine(2))
	g.ask(6, get("a"))
	g.ask(4, scan("", "", 5))
	g.ask(5, get("b"), fine(5))
	g.ask(3, put("a", "3"))
	g.ask(7, get("a"))
	g.ask(2, commit, over(2, api.OK), got(6, "2"), read(4, "a", "2"))
	g.wantQueue(claim(3, one(2, "a"), 5), claim(7, one(1, "a"), 5))
	g.ask(6, abort, over(6, api.OK))
	g.ask(5, put("c", "5"))
	g.ask(4, commit, over(4, api.OK), fine(3), fine(5))
	g.ask(3, get("a"), got(3, "3"))
	g.ask(3, commit, over(3, api.OK), got(7, "3"))
	g.wantLive(5, 7)
}

// TestP13_3RingSelf: who closes a ring, and is the greatest one of it, is given up: the others go on.
func TestP13_3RingSelf(t *testing.T) {
	g := with(t, []string{"a", "1"}, "t", "u")
	g.ask(2, get("a"), got(2, "1"))
	g.ask(3, get("a"), got(3, "1"))
	g.ask(2, put("a", "2"))
	g.ask(3, put("b", "7"), fine(3))
	g.ask(3, put("a", "3"), over(3, api.ErrLock), fine(2))
	g.wantLive(2)
	g.wantQueue()
	g.wantHeld(hold(2, one(1, "a")), hold(2, one(2, "a")))
	g.ask(2, get("b"), fine(2))
	g.wantToks("first", "c")
	g.ask(2, commit, over(2, api.OK))
	g.wantData("a", "2")
	g.begin("u", 4, api.OK)
}

// TestP13_3RingOther: the greatest one is another one: who asked goes on, in its turn.
func TestP13_3RingOther(t *testing.T) {
	g := with(t, []string{"a", "1", "b", "2"}, "t", "u")
	g.ask(2, put("a", "9"), fine(2))
	g.ask(3, put("b", "8"), fine(3))
	g.ask(3, get("a"))
	g.ask(2, get("b"), over(3, api.ErrLock), got(2, "2"))
	g.wantLive(2)
	g.wantTxn(api.Txn{Id: 2, Token: "t", Writes: []api.Write{sets("a", "9")}})
	g.wantQueue()
	g.wantData("a", "1", "b", "2")
}

// TestP13_3RingThree: a ring of three, and who waits behind it; only the greatest one of the ring goes.
func TestP13_3RingThree(t *testing.T) {
	for first := range 3 {
		g := fresh(t, "t", "u", "v", "w")
		keys := []string{"a", "b", "c"}
		for i, k := range keys {
			g.ask(i+1, put(k, ""), fine(i+1))
		}
		g.ask(4, get(keys[first]))
		for i := range 2 {
			at := (first + i) % 3
			g.ask(at+1, get(keys[(at+1)%3]))
		}
		last := (first + 2) % 3
		// 3 goes, for which 2 waits; 4 waits for 3 alone, if at all.
		want := dones(over(3, api.ErrLock))
		if first == 2 {
			want = append(want, fine(4))
		}
		want = append(want, fine(2))
		g.ask(last+1, get(keys[(last+1)%3]), want...)
		g.wantLive(1, 2, 4)
	}
}

// TestP13_3RingMany: as long as there is a ring the greatest one of it goes; who asked goes on at the end.
func TestP13_3RingMany(t *testing.T) {
	g := with(t, []string{"a", "1"}, "t", "u", "v", "w", "x")
	for id := 3; id <= 5; id++ {
		g.ask(id, get("a"), got(id, "1"))
	}
	g.ask(2, put("b", "2"), fine(2))
	g.ask(2, put("c", "3"), fine(2))
	g.ask(4, get("c"))
	g.ask(3, get("b"))
	g.ask(6, scan("b", "c", 3))
	g.ask(2, put("a", "4"), over(4, api.ErrLock), over(3, api.ErrLock))
	g.wantLive(2, 5, 6)
	g.wantTxn(api.Txn{Id: 2, Token: "t", Writes: []api.Write{sets("b", "2"), sets("c", "3")}, Waits: true, Op: put("a", "4")})
	g.wantQueue(claim(6, from(1, "b", "c"), 5), claim(2, one(2, "a"), 5))
	g.ask(5, abort, over(5, api.OK), fine(2))
	g.ask(2, commit, over(2, api.OK), read(6, "b", "2"))
}

// TestP13_3RingTells: whom the end of a victim lets go on is told behind it, ahead of the next one.
func TestP13_3RingTells(t *testing.T) {
	g := with(t, []string{"a", "1", "d", "4"}, "t", "u", "v", "w", "x")
	g.ask(3, get("a"), got(3, "1"))
	g.ask(4, get("a"), got(4, "1"))
	g.ask(4, put("d", "5"), fine(4))
	g.ask(3, put("e", "5"), fine(3))
	g.ask(2, put("b", "2"), fine(2))
	g.ask(3, get("b"))
	g.ask(4, get("b"))
	g.ask(5, get("d"))
	g.ask(6, get("e"))
	g.ask(2, del("a"), over(4, api.ErrLock), got(5, "4"), over(3, api.ErrLock), fine(6), fine(2))
	g.wantLive(2, 5, 6)
	g.wantQueue()
}
