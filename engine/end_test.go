package engine

import (
	"fmt"
	"math"
	"testing"

	"stanchion/api"
	"stanchion/disk"
	"stanchion/kv"
)

// TestP13_4Commit: all that was written is there, in one step, for all that come behind; it lasts.
func TestP13_4Commit(t *testing.T) {
	g := with(t, []string{"a", "1", "b", "2"}, "t", "u", "v")
	g.ask(2, put("c", "3"), fine(2))
	g.ask(2, del("a"), fine(2))
	g.ask(2, put("b", "9"), fine(2))
	g.wantData("a", "1", "b", "2")
	x, _ := kv.Commit(g.e.X, api.Batch{Kind: 1, Token: "t", Writes: []api.Write{drops("a"), sets("b", "9"), sets("c", "3")}})
	want := g.e
	want.X, want.T, want.L = x, g.e.T[1:], api.Locks{}
	g.ask(2, commit, over(2, api.OK))
	g.want(want)
	g.wantToks("first", "c", "t", "c")
	g.ask(3, scan("", "", 9), read(3, "b", "9", "c", "3"))
	g.ask(2, commit, fails(2, api.ErrNone))
	g.ask(4, commit, over(4, api.OK))
	g.wantToks("first", "c", "t", "c", "v", "c")
	g.crash(nil, api.OK)
	g.wantData("b", "9", "c", "3")
	g.wantToks("first", "c", "t", "c", "v", "c")
	g.wantLive()
}

// TestP13_4Abort: nothing of it is there, and its token is given up, for good.
func TestP13_4Abort(t *testing.T) {
	g := with(t, []string{"a", "1"}, "t", "u", "v")
	g.ask(2, put("a", "9"), fine(2))
	g.ask(2, del("b"), fine(2))
	g.ask(3, get("a"))
	g.ask(4, get("b"))
	x, _ := kv.Commit(g.e.X, api.Batch{Kind: 2, Token: "t"})
	g.ask(2, abort, over(2, api.OK), got(3, "1"), fine(4))
	if !kv.Same(g.e.X, x) {
		t.Errorf("%+v; want %+v", g.e.X, x)
	}
	g.ask(2, abort, fails(2, api.ErrNone))
	g.wantToks("first", "c", "t", "g")
	g.begin("t", 0, api.ErrThere)
	g.crash(nil, api.OK)
	g.wantData("a", "1")
	g.begin("t", 0, api.ErrThere)
	g.begin("u", 5, api.OK)
}

// wantStore: an operation ends a transaction by a batch, whose error is told; whatever that is, the transaction goes, the others go on, and the store is the one that was told.
func wantStore(t *testing.T, e api.Engine, op api.Op, b api.Batch) api.Errno {
	t.Helper()
	x, err := kv.Commit(e.X, b)
	rest := []api.Txn{{Id: 9, Token: "z"}}
	e.T = append([]api.Txn{{Id: 5, Token: b.Token, Writes: b.Writes}, {Id: 9, Token: "z", Waits: true, Op: put("a", "9")}}, e.T...)
	if op.Kind == 6 {
		e.T[0].Writes = []api.Write{sets("a", "1"), sets("b", "1")}
	}
	e.L = api.Locks{Held: []api.Hold{hold(5, one(2, "a")), hold(9, one(1, "b"))}, Queue: []api.Claim{claim(9, one(2, "a"), 4)}}
	g := on(t, e)
	g.ask(5, op, over(5, err), fine(9))
	rest[0].Writes = []api.Write{sets("a", "9")}
	want := api.Engine{X: x, T: rest, L: api.Locks{Held: []api.Hold{hold(9, one(1, "b")), hold(9, one(2, "a"))}}, Next: e.Next, Now: e.Now}
	g.want(want)
	g = on(t, e)
	x, _ = kv.Commit(e.X, api.Batch{Kind: 2, Token: b.Token})
	g.leave(5, fine(9))
	want.X = x
	g.want(want)
	return err
}

// TestP13_4Errors: what the store refuses, and where the power goes, at each byte; it ends all the same.
func TestP13_4Errors(t *testing.T) {
	d, _ := disk.New(200)
	e, _ := New(d)
	e.X.S.Toks = row("u", "c", "v", "g")
	e.Next, e.Now = 10, 3
	commits := func(token string, w ...api.Write) api.Batch {
		return api.Batch{Kind: 1, Token: token, Writes: w}
	}
	giveUp := api.Batch{Kind: 2, Token: "t"}
	n := map[api.Errno]int{}
	for fuse := -1; fuse < 60; fuse++ {
		n[wantStore(t, Arm(e, fuse), commit, commits("t", sets("a", "1"), drops("b")))]++
		n[wantStore(t, Arm(e, fuse), abort, giveUp)]++
	}
	for room := range 60 {
		e.X.D.Room = room
		n[wantStore(t, e, commit, commits("t", sets("a", "1"), drops("b")))]++
		n[wantStore(t, e, abort, giveUp)]++
	}
	for _, token := range []string{"u", "v", "", long(17)} {
		n[wantStore(t, e, commit, commits(token))]++
		n[wantStore(t, e, abort, api.Batch{Kind: 2, Token: token})]++
	}
	n[wantStore(t, e, commit, commits("t", sets("b", ""), sets("a", "")))]++
	n[wantStore(t, down(e), commit, commits("t", sets("a", "1")))]++
	n[wantStore(t, down(e), abort, giveUp)]++
	for _, want := range []api.Errno{api.OK, api.ErrDead, api.ErrFull, api.ErrThere, api.ErrArg} {
		if n[want] == 0 {
			t.Errorf("error %d never came: %v", want, n)
		}
	}
}

// TestP13_4Dead: without power who lives reads and writes still, and can't commit.
func TestP13_4Dead(t *testing.T) {
	g := with(t, []string{"a", "1"}, "t", "u", "v", "w")
	g.ask(2, put("a", "2"), fine(2))
	g.ask(3, get("a"))
	g.arm(7)
	g.ask(2, commit, over(2, api.ErrDead), got(3, "1"))
	g.ask(3, put("b", "3"), fine(3))
	g.ask(4, scan("", "a", 2), read(4))
	g.ask(4, get("b"))
	g.ask(3, commit, over(3, api.ErrDead), fine(4))
	g.ask(4, abort, over(4, api.ErrDead))
	g.leave(5)
	g.wantLive()
	g.wantToks("first", "c")
	g.wantData("a", "1")
	g.crash(nil, api.OK)
	for i, token := range []string{"t", "u", "v", "w"} {
		g.begin(token, 6+i, api.OK)
	}
}

// TestP13_4CommitKept: power goes while a commit is written: behind the crash it is there whole, or not at all.
func TestP13_4CommitKept(t *testing.T) {
	n := map[int]int{}
	for fuse := range 60 {
		for keep := range 60 {
			g := fresh(t, "t")
			g.e, _ = Ask(g.e, 1, put("a", "1"))
			g.e, _ = Ask(g.e, 1, put("b", "2"))
			k, out := Ask(Arm(g.e, fuse), 1, commit)
			k, err := Crash(k, []int{keep})
			if err != api.OK {
				t.Fatalf("Crash: %d", err)
			}
			_, _, why := Begin(k, "t")
			g.e = k
			switch {
			case len(k.X.S.Data) == 2 && why == api.ErrThere:
				n[2]++
			case len(k.X.S.Data) == 0 && why == api.OK && out[0].Err != api.OK:
				n[0]++
			default:
				t.Errorf("with the fuse %d, keeping %d: %+v, and of the data %q", fuse, keep, out, k.X.S.Data)
			}
		}
	}
	if n[0] == 0 || n[2] == 0 {
		t.Errorf("%v", n)
	}
}

// TestP13_4Leave: who isn't there leaves without a word; who is, waiting or not, is given up, and only the others are answered.
func TestP13_4Leave(t *testing.T) {
	g := with(t, []string{"a", "1"}, "t", "u", "v", "w")
	g.ask(2, put("a", "9"), fine(2))
	g.ask(3, put("b", "8"), fine(3))
	g.ask(3, put("a", "7"))
	g.ask(4, get("a"))
	g.ask(5, get("b"))
	was := g.e
	for _, id := range []int{0, 1, 6, -1, math.MaxInt, math.MinInt} {
		g.leave(id)
		g.want(was)
	}
	g.leave(3, fine(5))
	g.wantToks("first", "c", "u", "g")
	g.wantQueue(claim(4, one(1, "a"), 5))
	g.leave(2, got(4, "1"))
	g.wantToks("first", "c", "t", "g", "u", "g")
	g.wantLive(4, 5)
	g.leave(4)
	g.leave(5)
	g.wantHeld()
	g.wantLive()
	g.wantData("a", "1")
	g.leave(5)
	g.wantToks("first", "c", "t", "g", "u", "g", "v", "g", "w", "g")
}

// TestP13_4Tick: time never goes back; who waited till then is given up, and its token isn't.
func TestP13_4Tick(t *testing.T) {
	g := with(t, []string{"a", "1"}, "t", "u", "v")
	for _, x := range []struct{ now, after uint64 }{{3, 3}, {2, 3}, {0, 3}, {3, 3}, {7, 7}} {
		g.tick(x.now)
		if g.e.Now != x.after {
			t.Errorf("Tick(%d): it is %d; want %d", x.now, g.e.Now, x.after)
		}
	}
	g.ask(2, put("a", "9"), fine(2))
	g.ask(3, get("b"), fine(3))
	g.ask(3, get("a"))
	g.tick(10)
	g.ask(4, get("a"))
	g.tick(11)
	was := g.e
	g.tick(11)
	g.want(was)
	x := g.e.X
	g.tick(12, over(3, api.ErrLock))
	g.wantHeld(hold(2, one(2, "a")))
	g.wantQueue(claim(4, one(1, "a"), 15))
	if !kv.Same(x, g.e.X) {
		t.Error("a late one changed the store")
	}
	g.begin("u", 5, api.OK)
	g.tick(math.MaxUint64, over(4, api.ErrLock))
	g.wantLive(2, 5)
	g.ask(5, get("a"))
	g.tick(0, over(5, api.ErrLock)) // The end of time is here.
	g.ask(2, commit, over(2, api.OK))
}

// TestP13_4TickMany: the late ones go in the order of their claims; whom that lets go on stays, late or not.
func TestP13_4TickMany(t *testing.T) {
	g := with(t, []string{"a", "1", "c", "3"}, "t", "u", "v", "w", "x")
	g.ask(2, put("a", "9"), fine(2))
	g.ask(5, put("c", "8"), fine(5))
	g.ask(5, put("a", "7"))
	g.ask(3, scan("b", "", 4))
	g.ask(6, put("b", "6"))
	g.tick(1)
	g.ask(4, get("b"))
	g.tick(4)
	g.tick(5, over(5, api.ErrLock), read(3, "c", "3"), over(6, api.ErrLock), fine(4))
	g.wantLive(2, 3, 4)
	g.wantQueue()
	g.wantHeld(hold(2, one(2, "a")), hold(3, from(1, "b", "")), hold(4, one(1, "b")))
	g.wantData("a", "1", "c", "3")
}

// TestP13_4TickAll: all that wait may be late.
func TestP13_4TickAll(t *testing.T) {
	g := fresh(t, "1", "2", "3", "4", "5", "6")
	g.ask(1, put("a", ""), fine(1))
	var want []api.Done
	for id := 6; id > 1; id-- {
		g.ask(id, put("a", fmt.Sprint(id)))
		want = append(want, over(id, api.ErrLock))
	}
	g.tick(5, want...)
	g.wantLive(1)
	g.wantHeld(hold(1, one(2, "a")))
}

// TestP13_4Wild: where an engine isn't one that these calls made, claims and what is held may be nobody's: it ends all the same.
func TestP13_4Wild(t *testing.T) {
	e := api.Engine{T: []api.Txn{{Id: 2, Token: "t", Op: get("z")}, {Id: 3, Token: "u", Waits: true}, {Id: 3, Token: "v"}, {Id: 4, Token: "w", Waits: true, Op: commit}}}
	e.L.Held = []api.Hold{hold(8, one(2, "a")), hold(2, one(1, "b")), hold(9, one(2, "c"))}
	e.L.Queue = []api.Claim{claim(9, one(1, "b"), 4), claim(2, one(1, "a"), 3), claim(3, one(2, "b"), 9), claim(4, one(2, "c"), 9)}
	for id := range 11 {
		for _, op := range []api.Op{get("a"), put("b", "1"), put("c", "1"), scan("", "", 3), commit, abort} {
			k, _ := Ask(e, id, op)
			k, _ = Leave(k, 3)
			if _, is := Find(k, 3); is {
				t.Errorf("3 is still there: %+v", k)
			}
			k, _ = Tick(k, math.MaxUint64)
			if len(k.L.Queue) > 0 {
				t.Errorf("%+v wait till the end of time", k.L.Queue)
			}
		}
	}
}

// TestP13_4WildRing: of a ring with a number that is nobody's the greatest one is given up all the same.
func TestP13_4WildRing(t *testing.T) {
	e := api.Engine{T: []api.Txn{{Id: 1, Token: "t"}}}
	e.L.Held = []api.Hold{hold(1, one(2, "a")), hold(9, one(2, "b"))}
	e.L.Queue = []api.Claim{claim(9, one(1, "a"), 4)}
	g := on(t, e)
	g.ask(1, get("b"), over(9, api.ErrLock), fine(1))
	g.wantQueue()
}

// TestP13_4WildTwice: who has two claims has one operation still: it is done once.
func TestP13_4WildTwice(t *testing.T) {
	e := api.Engine{T: []api.Txn{{Id: 1, Token: "t"}, {Id: 2, Token: "u", Waits: true, Op: put("b", "2")}, {Id: 3, Token: "v"}}}
	e.L.Held = []api.Hold{hold(1, from(2, "a", ""))}
	e.L.Queue = []api.Claim{claim(2, one(1, "a"), 4), claim(3, one(1, "c"), 4), claim(2, one(2, "b"), 4)}
	g := on(t, e)
	g.leave(1, fine(2))
	g.wantTxn(api.Txn{Id: 2, Token: "u", Writes: []api.Write{sets("b", "2")}})
	g.wantTxn(api.Txn{Id: 3, Token: "v"})
	g.wantQueue()
}
