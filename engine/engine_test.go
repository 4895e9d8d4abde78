package engine

import (
	"fmt"
	"math"
	"testing"

	"stanchion/api"
	"stanchion/disk"
	"stanchion/kv"
)

// TestExample: the chapter's example.
func TestExample(t *testing.T) {
	g := fresh(t)
	g.begin("t", 1, api.OK)
	g.ask(1, put("a", "1"), fine(1))
	g.ask(1, get("a"), got(1, "1"))
	g.ask(1, commit, over(1, api.OK))
	g.wantData("a", "1")
	g.wantToks("t", "c")
	g.wantLive()
	g.wantHeld()
}

// drive is a disk of three files, the first one with bytes that wait.
func drive(t *testing.T) api.Disk {
	t.Helper()
	d, _ := disk.New(5000)
	d, _ = disk.Append(d, "x", "waits")
	x, _ := kv.Open(d)
	x, _ = kv.Commit(x, api.Batch{Kind: 1, Token: "t", Writes: []api.Write{sets("a", "1"), sets("c", "3")}})
	x, _ = kv.Check(x)
	x, e := kv.Commit(x, api.Batch{Kind: 2, Token: "u"})
	if e != api.OK {
		t.Fatal(e)
	}
	return x.D
}

// TestP13_1New: the store of a disk, and nothing else but the number of the next transaction.
func TestP13_1New(t *testing.T) {
	empty, _ := disk.New(0)
	for _, d := range []api.Disk{{}, {Off: true, Fuse: 3, Room: -7}, empty, drive(t)} {
		x, _ := kv.Open(d)
		a := call(t, "New", api.Engine{X: api.Store{D: d}}, func(e api.Engine) answer {
			k, err := New(e.X.D)
			return answer{e: k, err: err}
		})
		if want := (api.Engine{X: x, Next: 1}); a.err != api.OK || !alike(a.e, want) {
			t.Errorf("New: %+v, error %d; want %+v", a.e, a.err, want)
		}
	}
}

// TestP13_1NewWrong: a disk that can't be opened.
func TestP13_1NewWrong(t *testing.T) {
	for _, f := range []api.File{{Name: "m", Safe: "1;"}, {Name: "m", Safe: kv.Manifest(1, 5)}} {
		d := api.Disk{Files: []api.File{f}, Room: 100, Fuse: -1}
		if _, e := kv.Open(d); e != api.ErrForm {
			t.Fatalf("Open: %d", e)
		}
		if e, err := New(d); err != api.ErrForm || !alike(e, api.Engine{}) {
			t.Errorf("New: %+v, error %d", e, err)
		}
	}
}

// some is an engine in which much is told, that no calls came to.
func some(t *testing.T) api.Engine {
	t.Helper()
	x, e := kv.Open(drive(t))
	if e != api.OK {
		t.Fatal(e)
	}
	return api.Engine{
		X: x,
		L: api.Locks{
			Held:  []api.Hold{hold(3, one(2, "a")), hold(5, one(1, "b"))},
			Queue: []api.Claim{claim(5, one(1, "a"), 13), claim(7, from(1, "", ""), 14)},
		},
		T: []api.Txn{
			{Id: 3, Token: "three", Writes: []api.Write{sets("a", "9"), drops("b")}},
			{Id: 5, Token: "five", Waits: true, Op: get("a")},
			{Id: 7, Token: "seven", Waits: true, Op: scan("", "", 3)},
		},
		Next: 9, Now: 10,
	}
}

// TestP13_1Find: the first one of a number.
func TestP13_1Find(t *testing.T) {
	e := some(t)
	e.T = append(e.T, api.Txn{Id: 5, Token: "other"}, api.Txn{Id: 0, Token: "none"}, api.Txn{Id: -1, Token: "below"}, api.Txn{Id: math.MinInt, Writes: []api.Write{sets("q", "")}})
	for id, want := range map[int]int{3: 0, 5: 1, 7: 2, 0: 4, -1: 5, math.MinInt: 6} {
		in := roomy(e)
		got, is := Find(in, id)
		if !is || !alikeTxns(got, e.T[want]) {
			t.Errorf("Find(%d): %+v, %t; want %+v", id, got, is, e.T[want])
		}
		wantApart(t, "Find", in, got)
	}
	for _, id := range []int{1, 2, 4, 6, 9, -2, math.MaxInt} {
		if got, is := Find(e, id); is || !alikeTxns(got, api.Txn{}) {
			t.Errorf("Find(%d): %+v, %t", id, got, is)
		}
	}
	if got, is := Find(api.Engine{}, 0); is || !alikeTxns(got, api.Txn{}) {
		t.Errorf("Find of nothing: %+v", got)
	}
}

// TestP13_1Check: the store is chapter 8's, with an error too; the rest stays as it is.
func TestP13_1Check(t *testing.T) {
	n := map[api.Errno]int{}
	e := some(t)
	for fuse := -1; fuse < 150; fuse++ {
		g := on(t, e)
		g.arm(fuse)
		want := g.e
		x, err := kv.Check(want.X)
		want.X = x
		g.check(err)
		g.want(want)
		n[err]++
	}
	if n[api.OK] == 0 || n[api.ErrDead] == 0 || len(n) != 2 {
		t.Errorf("%v", n)
	}
	e.X.D.Room = 45
	g := on(t, e)
	g.check(api.ErrFull)
	if alike(g.e, e) || len(g.e.T) != 3 {
		t.Errorf("what the disk took ahead of the error is not told: %+v", g.e)
	}
	e.X.Down = true
	g = on(t, e)
	g.check(api.ErrDead)
	g.want(e)
}

// TestP13_1Crash: what is on the disk, the time, and the number of the next one are all that is left.
func TestP13_1Crash(t *testing.T) {
	for keep := range 4 {
		e := Arm(some(t), 2)
		e.X.Down, e.X.D.Off = keep%2 == 0, keep > 1
		g := on(t, e)
		g.crash([]int{keep}, api.OK)
		x, _ := kv.Open(disk.Crash(e.X.D, []int{keep}))
		g.want(api.Engine{X: x, Next: 9, Now: 10})
		if f, _ := disk.Find(g.e.X.D, "x"); len(f.Safe) != keep || g.e.X.D.Fuse != -1 {
			t.Errorf("of the bytes that waited %q is left", f.Safe)
		}
	}
	g := on(t, some(t))
	g.crash(nil, api.OK)
	g.begin("next", 9, api.OK)
	g.tick(4)
	if g.e.Now != 10 {
		t.Errorf("the time is %d", g.e.Now)
	}
}

// TestP13_1CrashWrong: a disk that can't be opened behind a crash; which bytes are kept tells.
func TestP13_1CrashWrong(t *testing.T) {
	e := some(t)
	e.X.D = api.Disk{Files: []api.File{{Name: "m", Wait: "1;"}}}
	for _, keeps := range [][]int{nil, {0}, {1}, {2}, {3, 4}} {
		g := on(t, e)
		g.crash(keeps, api.ErrForm)
		g.want(api.Engine{})
	}
}

// TestP13_1Arm: the fuse of the disk; none, if it is below 0.
func TestP13_1Arm(t *testing.T) {
	for fuse, want := range map[int]int{0: 0, 1: 1, math.MaxInt: math.MaxInt, -1: -1, -2: -1, math.MinInt: -1} {
		e := some(t)
		g := on(t, e)
		g.arm(fuse)
		e.X.D.Fuse = want
		g.want(e)
	}
}

// changed are engines that differ from some in one thing.
func changed(t *testing.T) map[string]api.Engine {
	all := map[string]api.Engine{}
	change := func(what string, by func(e *api.Engine)) {
		e := some(t)
		by(&e)
		all[what] = e
	}
	change("Room", func(e *api.Engine) { e.X.D.Room++ })
	change("Seg", func(e *api.Engine) { e.X.Seg++ })
	change("Down", func(e *api.Engine) { e.X.Down = true })
	change("Toks", func(e *api.Engine) { e.X.S.Toks = e.X.S.Toks[:1] })
	change("Held", func(e *api.Engine) { e.L.Held[0].Txn++ })
	change("Until", func(e *api.Engine) { e.L.Queue[1].Until++ })
	change("fewer", func(e *api.Engine) { e.T = e.T[:2] })
	change("more", func(e *api.Engine) { e.T = append(e.T, api.Txn{}) })
	change("order", func(e *api.Engine) { e.T[0], e.T[1] = e.T[1], e.T[0] })
	change("Id", func(e *api.Engine) { e.T[1].Id++ })
	change("Token", func(e *api.Engine) { e.T[2].Token += "." })
	change("Writes", func(e *api.Engine) { e.T[0].Writes = e.T[0].Writes[:1] })
	change("Del", func(e *api.Engine) { e.T[0].Writes[1].Del = false })
	change("Waits", func(e *api.Engine) { e.T[2].Waits = false })
	change("Key", func(e *api.Engine) { e.T[1].Op.Key = "b" })
	change("Most", func(e *api.Engine) { e.T[2].Op.Most++ })
	change("Next", func(e *api.Engine) { e.Next++ })
	change("Now", func(e *api.Engine) { e.Now++ })
	return all
}

// TestP13_1Same: they are, if all is; lists without elements are alike.
func TestP13_1Same(t *testing.T) {
	e := some(t)
	if !Same(e, e) || !Same(e, some(t)) || !Same(e, roomy(e)) || !Same(api.Engine{}, roomy(api.Engine{})) {
		t.Error("what is the same isn't")
	}
	all := changed(t)
	for what, k := range all {
		if Same(e, k) || Same(k, e) {
			t.Errorf("%s: they are the same", what)
		}
		if !Same(k, k) {
			t.Errorf("%s: it isn't the same as it is", what)
		}
		if Same(k, api.Engine{}) {
			t.Errorf("%s: it is nothing", what)
		}
	}
}

// TestP13_2Begin: one behind the other, with numbers that go on.
func TestP13_2Begin(t *testing.T) {
	g := fresh(t)
	e := g.e
	for i, token := range []string{"t", long(16), "\x00", "T"} {
		g.begin(token, i+1, api.OK)
		e.T = append(e.T, api.Txn{Id: i + 1, Token: token})
		e.Next++
		g.want(e)
	}
	g.ask(2, abort, over(2, api.OK))
	g.begin("u", 5, api.OK)
	g.wantLive(1, 3, 4, 5)
	w := on(t, some(t))
	w.begin("u9", 9, api.OK)
	w.begin("u10", 10, api.OK)
	w.wantLive(3, 5, 7, 9, 10)
	w.wantTxn(api.Txn{Id: 9, Token: "u9"})
}

// TestP13_2Wild: the next number is told, whichever it is; it goes round.
func TestP13_2Wild(t *testing.T) {
	g := on(t, api.Engine{Next: math.MaxInt})
	g.begin("t", math.MaxInt, api.OK)
	g.begin("u", math.MinInt, api.OK)
	g.want(api.Engine{T: []api.Txn{{Id: math.MaxInt, Token: "t"}, {Id: math.MinInt, Token: "u"}}, Next: math.MinInt + 1})
}

// decided are n tokens that are, and none of them t or u.
func decided(n int) []api.Pair {
	var l []api.Pair
	for i := range n {
		l = append(l, api.Pair{Key: fmt.Sprintf("d%02d", i), Val: "cg"[i%2 : i%2+1]})
	}
	return l
}

// crowd is an engine of n transactions that live, t0 and so on, and of m tokens that are decided.
func crowd(n, m int) api.Engine {
	e := api.Engine{Next: n + 1}
	for i := range n {
		e.T = append(e.T, api.Txn{Id: i + 1, Token: fmt.Sprint("t", i)})
	}
	e.X.S.Toks = decided(m)
	return e
}

// down is an engine whose store is.
func down(e api.Engine) api.Engine {
	e.X.Down = true
	return e
}

// TestP13_2Wrong: each error, at its edge, and ahead of those that are named behind it; the engine stays as it is.
func TestP13_2Wrong(t *testing.T) {
	for i, x := range []struct {
		e     api.Engine
		token string
		want  api.Errno
	}{
		{down(crowd(1, 1)), "u", api.ErrDead},
		{down(crowd(1, 1)), "", api.ErrDead},
		{down(crowd(6, 64)), "d00", api.ErrDead},
		{down(crowd(6, 64)), "t0", api.ErrDead},
		{crowd(1, 1), "", api.ErrArg},
		{crowd(1, 1), long(17), api.ErrArg},
		{crowd(6, 64), "", api.ErrArg},
		{crowd(6, 64), long(70000), api.ErrArg},
		{crowd(1, 2), "d00", api.ErrThere}, // committed
		{crowd(1, 2), "d01", api.ErrThere}, // given up
		{crowd(6, 64), "d63", api.ErrThere},
		{crowd(1, 1), "t0", api.ErrState},
		{crowd(3, 1), "t2", api.ErrState},
		{crowd(6, 64), "t5", api.ErrState},
		{crowd(6, 0), "u", api.ErrBusy},
		{crowd(7, 0), "u", api.ErrBusy},
		{crowd(6, 58), "u", api.ErrBusy},
		{crowd(6, 64), "u", api.ErrBusy},
		{crowd(0, 64), "u", api.ErrFull},
		{crowd(0, 65), "u", api.ErrFull},
		{crowd(1, 63), "u", api.ErrFull},
		{crowd(2, 62), "u", api.ErrFull},
		{crowd(2, 63), "u", api.ErrFull},
		{crowd(5, 59), "u", api.ErrFull},
		{crowd(0, 63), "u", api.OK},
		{crowd(1, 62), "u", api.OK},
		{crowd(5, 58), "u", api.OK},
		{crowd(5, 58), "T0", api.OK},
		{crowd(5, 58), "d0", api.OK},
		{crowd(5, 58), long(16), api.OK},
	} {
		g := on(t, x.e)
		id := 0
		if x.want == api.OK {
			id = x.e.Next
		}
		g.begin(x.token, id, x.want)
		if t.Failed() {
			t.Fatalf("at the place %d", i)
		}
	}
}

// TestP13_2BeginDead: where the power goes none begins, till the crash.
func TestP13_2BeginDead(t *testing.T) {
	g := fresh(t, "t", "u")
	g.arm(3)
	g.begin("v", 3, api.OK)
	g.ask(1, commit, over(1, api.ErrDead))
	g.begin("w", 0, api.ErrDead)
	g.begin("t", 0, api.ErrDead)
	g.crash(nil, api.OK)
	g.begin("t", 4, api.OK)
}

// TestP13_2Full: with as many tokens as there may be all that live are decided; none is lost.
func TestP13_2Full(t *testing.T) {
	g := fresh(t)
	for i := range 60 {
		g.begin(fmt.Sprint("k", i), i+1, api.OK)
		g.ask(i+1, []api.Op{commit, abort}[i%2], over(i+1, api.OK))
	}
	for i := range 4 {
		g.begin(fmt.Sprint("l", i), i+61, api.OK)
	}
	g.begin("u", 0, api.ErrFull)
	for i := range 4 {
		g.leave(i + 61)
		g.begin("u", 0, api.ErrFull)
	}
	if n := len(g.e.X.S.Toks); n != 64 {
		t.Errorf("%d tokens are decided", n)
	}
	g.crash(nil, api.OK)
	g.begin("u", 0, api.ErrFull)
	g.begin("l3", 0, api.ErrThere)
}
