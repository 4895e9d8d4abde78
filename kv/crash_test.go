package kv

import (
	"fmt"
	"math"
	"math/rand"
	"slices"
	"testing"

	"stanchion/api"
	"stanchion/batch"
	"stanchion/disk"
	"stanchion/wal"
)

// crashed is a disk behind a crash, as chapter 3 tells it.
func crashed(d api.Disk, keeps []int) api.Disk {
	d.Fuse, d.Off, d.Files = -1, false, slices.Clone(d.Files)
	for i, f := range d.Files {
		keep := 0
		if i < len(keeps) {
			keep = min(max(keeps[i], 0), len(f.Wait))
		}
		d.Files[i] = file(f.Name, f.Safe+f.Wait[:keep], "")
		d.Room += len(f.Wait) - keep
	}
	return d
}

// wantCrash: what is opened behind a crash; nothing that is handed in is written into, spare room neither.
func wantCrash(t *testing.T, x api.Store, keeps []int) api.Errno {
	t.Helper()
	after, e := toldOpen(crashed(x.D, keeps))
	in := roomy(keeps, 77)
	what := fmt.Sprintf("Crash keeping %d", keeps)
	wantCall(t, what, x, func(x api.Store) (api.Store, api.Errno) { return Crash(x, in) }, after, e)
	wantUntouched(t, in, keeps, 77, what)
	return e
}

// TestP8_5Crash: what waits is kept, of each file its own; a store that is Down, or has a fuse, has power again.
func TestP8_5Crash(t *testing.T) {
	second := log(putB, dropA)
	d := drive(500, file("w2", log(putA)[:9], log(putA)[9:]), file("x", "", text(40)), file("r3", runText(bothAB), "odd"), file("w3", "", second), m(2, 0))
	all := []int{math.MinInt, -1, 0, 1, len(log(putA)) - 10, len(log(putA)) - 9, len(second) - 1, len(second), len(second) + 1, math.MaxInt}
	n := map[api.Errno]int{}
	for _, x := range []api.Store{store(d, 2, 3, 0, bothAB), down(store(off(d), 7, 8, 9, onlyA)), store(armed(d, 0), 0, -1, 1<<40, state(row("b", "", "a", ""), nil))} {
		for _, a := range all {
			for _, b := range all {
				n[wantCrash(t, x, []int{a, 40, 3, b})]++
				wantCrash(t, x, []int{a, 40, 3, b, 9, 9, 9, b})
			}
			n[wantCrash(t, x, []int{a})]++
			n[wantCrash(t, x, []int{a, a, a})]++
		}
		n[wantCrash(t, x, nil)]++
		n[wantCrash(t, x, []int{})]++
	}
	for _, run := range []int{2, 3} { // the run isn't there, or it waits, and is odd
		x := d
		x.Files = slices.Clone(d.Files)
		x.Files[4] = m(2, run)
		for keep := range 4 {
			n[wantCrash(t, store(x, 2, 3, 0, bothAB), []int{99, 0, keep, 0})]++
		}
	}
	if n[api.OK] == 0 || n[api.ErrForm] != 7 || len(n) != 2 {
		t.Errorf("%v", n)
	}
}

// TestP8_5CrashWrong: a disk that can't be opened behind a crash.
func TestP8_5CrashWrong(t *testing.T) {
	for _, x := range []struct {
		d     api.Disk
		keeps []int
		e     api.Errno
	}{
		{drive(9, file("m", "", m(1, 0).Safe)), nil, api.ErrForm},
		{drive(9, file("m", "", m(1, 0).Safe)), []int{14}, api.ErrForm},
		{drive(9, file("m", "", m(1, 0).Safe)), []int{15}, api.OK},
		{drive(9, m(1, 1), file("r1", "", runText(onlyA))), []int{9, 20}, api.ErrForm},
		{drive(9, m(1, 1), file("r1", "", runText(onlyA))), []int{0, 99}, api.OK},
		{drive(9, file("w1", "", sealed("odd"))), nil, api.OK},
		{drive(9, file("w1", "", sealed("odd"))), []int{99}, api.ErrForm},
		{drive(0, file("w1", log(putA), "torn")), nil, api.OK},
		{drive(0, file("w1", log(putA), "torn")), []int{1}, api.ErrFull},
		{off(filled(drive(900, file("w1", log(putA), "torn")), 64)), []int{4}, api.ErrFull},
		{off(filled(drive(900, file("w1", log(putA), "torn")), 63)), []int{4}, api.OK},
	} {
		y := down(store(x.d, 1, 1, 0, onlyA))
		if e := wantCrash(t, y, x.keeps); e != x.e {
			t.Errorf("%s, %d: %d; want %d", show(y), x.keeps, e, x.e)
		}
	}
}

// TestP8_5Told: every answer is the told one.
func TestP8_5Told(t *testing.T) {
	n := map[api.Errno]int{}
	for i, x := range stores() {
		for _, keeps := range [][]int{nil, {255, 255}, {i % 7, 0, 0}, {0, i % 300}} {
			n[wantCrash(t, x, keeps)]++
		}
		if t.Failed() {
			return
		}
	}
	if len(n) != 2 {
		t.Errorf("%v", n)
	}
}

// TestP8_5Arm: the fuse is set, nothing else.
func TestP8_5Arm(t *testing.T) {
	files := []api.File{m(2, 1), file("w2", "", "wait"), r(1, onlyA)}
	for _, d := range []api.Disk{drive(9, files...), armed(drive(0), 0), armed(drive(9, files...), 7), off(drive(9, files...)), off(armed(drive(9, files...), 0)), {}} {
		for _, x := range []api.Store{store(d, 2, 3, 1, bothAB), down(store(d, -2, math.MaxInt, -1, state(row("b", "", "a", ""), nil)))} {
			for _, fuse := range []int{math.MinInt, -2, -1, 0, 1, 7, 1 << 40, math.MaxInt} {
				after := x
				after.D.Fuse = max(fuse, -1)
				wantCall(t, fmt.Sprint("Arm ", fuse), x, func(x api.Store) (api.Store, api.Errno) { return Arm(x, fuse), api.OK }, after, api.OK)
			}
		}
	}
	x, _ := Open(drive(900))
	x, e := Commit(Arm(x, 5), putA)
	if e != api.ErrDead || !x.Down || !x.D.Off {
		t.Errorf("%s, %d", show(x), e)
	}
	if y, e := Commit(Arm(x, -1), putA); e != api.ErrDead || !alike(y, Arm(x, -1)) {
		t.Errorf("power that is gone doesn't come back by a fuse: %s, %d", show(y), e)
	}
}

// folded is what batches come to, one behind the other.
func folded(l []api.Batch) api.State {
	s := api.State{}
	for _, b := range l {
		s, _ = batch.Do(s, b)
	}
	return s
}

// A step of a history is a batch that is committed, or a check, which is a batch of no kind.
var checks = api.Batch{}

// past is what a history came to: the store, the batches whose commits were OK, and those that the power took.
type past struct {
	x    api.Store
	sure []api.Batch
	lost []api.Batch
}

// goOn takes a step.
func (p past) goOn(t *testing.T, b api.Batch) past {
	t.Helper()
	was := p.x
	var e api.Errno
	if b.Kind == 0 {
		p.x, e = Check(was)
	} else {
		p.x, e = Commit(was, b)
	}
	switch {
	case p.x.Down != (e == api.ErrDead):
		t.Errorf("%s: %d, Down %t", show(was), e, p.x.Down)
	case b.Kind == 0:
	case e == api.OK:
		p.sure = append(slices.Clone(p.sure), b)
	case e == api.ErrDead && !was.Down:
		p.lost = []api.Batch{b}
	}
	if !p.x.Down && !alikeStates(p.x.S, folded(p.sure)) {
		t.Errorf("%s: the state is another one than that of %v", show(p.x), p.sure)
	}
	return p
}

// behind is what stands behind a crash: opened, with each batch that was sure, and perhaps the one that the power took; opened again it is the same.
func (p past) behind(t *testing.T, keeps []int) past {
	t.Helper()
	y, e := Crash(p.x, keeps)
	if e != api.OK {
		t.Fatalf("%s, keeping %d: %d", show(p.x), keeps, e)
	}
	switch all := slices.Concat(p.sure, p.lost); {
	case alikeStates(y.S, folded(p.sure)):
	case alikeStates(y.S, folded(all)):
		p.sure = all
	default:
		t.Fatalf("%s, keeping %d: %s isn't what %v come to", show(p.x), keeps, show(y), all)
	}
	if again, e := Open(y.D); e != api.OK || !alike(again, y) {
		t.Errorf("%s: opened again it is %s, %d", show(y), show(again), e)
	}
	if again, e := Crash(y, []int{9, 9, 9, 9}); e != api.OK || !alike(again, y) {
		t.Errorf("%s: crashed again it is %s, %d", show(y), show(again), e)
	}
	p.x, p.lost = y, nil
	return p
}

// waysToKeep are those to keep what waits: all, nothing, and each number of bytes of one file.
func waysToKeep(d api.Disk) [][]int {
	l := [][]int{slices.Repeat([]int{math.MaxInt}, len(d.Files)), nil}
	for i, f := range d.Files {
		for n := range len(f.Wait) {
			keep := make([]int, len(d.Files))
			keep[i] = n + 1
			l = append(l, keep)
		}
	}
	return l
}

// histories are some, each of which goes through some segments.
func histories() [][]api.Batch {
	b := func(i int) api.Batch {
		return does(fmt.Sprint("t", i), put("k", text(60)), put("l", fmt.Sprint(i)), put(fmt.Sprint("m", i), text(40)))
	}
	return [][]api.Batch{
		{putA, putB, dropA, giveW},
		{checks, checks},
		{putA, checks, putB, checks, checks, dropA},
		{b(1), b(2), b(3), checks, giveW, b(4)},
		{putA, putA, giveUp("t"), does(""), b(1), b(2), dropA, checks, b(1), checks, putB},
	}
}

// TestP8_6Fuse: the power goes at each byte and each step of a history, whatever is kept; then the history goes on, and all is as it ought to be.
func TestP8_6Fuse(t *testing.T) {
	deaths := 0
	for _, steps := range histories() {
		for fuse := 0; ; fuse++ {
			x, _ := Open(drive(9000, file("x", "y", "z")))
			p := past{x: Arm(x, fuse)}
			done := 0
			for done < len(steps) && !p.x.Down {
				p = p.goOn(t, steps[done])
				done++
			}
			if !p.x.Down {
				break
			}
			deaths++
			for i, keeps := range waysToKeep(p.x.D) {
				q := p.behind(t, keeps)
				if i%16 > 2 {
					continue
				}
				for _, b := range append([]api.Batch{does("new", put("n", "w"))}, steps[done-1:]...) {
					q = q.goOn(t, b)
				}
				if q = q.behind(t, nil); len(q.lost) != 0 || len(folded(q.sure).Toks) != len(q.sure) {
					t.Errorf("%v", q)
				}
			}
			if t.Failed() {
				return
			}
		}
	}
	if deaths < 1000 {
		t.Errorf("the power went %d times", deaths)
	}
}

// TestP8_6FuseTwice: the power goes again, behind the crash.
func TestP8_6FuseTwice(t *testing.T) {
	steps := []api.Batch{putA, checks, putB, dropA, checks, giveW}
	for fuse := range 260 {
		x, _ := Open(drive(9000))
		p := past{x: Arm(x, fuse)}
		for _, b := range steps {
			p = p.goOn(t, b)
		}
		for i, keeps := range [][]int{nil, {99, 99, 99, 99}, {7, 11, 13, 17}} {
			for again := 3 * i; again < 260; again += 9 {
				q := p.behind(t, keeps)
				q.x = Arm(q.x, again)
				for _, b := range steps {
					q = q.goOn(t, b)
				}
				q = q.behind(t, []int{again, fuse, again, fuse})
				for _, b := range steps {
					q = q.goOn(t, b)
				}
				if q = q.behind(t, nil); !alikeStates(q.x.S, allOf) {
					t.Fatalf("%d, %d: %s", fuse, again, show(q.x))
				}
			}
		}
	}
}

// TestP8_6Open: the power goes at each byte and each step, as a torn log is cut: behind that it is opened as it would have been.
func TestP8_6Open(t *testing.T) {
	for _, d := range []api.Disk{
		drive(900, file("w1", log(putA)+"torn", "")),
		drive(900, file("x", "y", ""), file("w1", log(putA, putB), ""), file("w.new", "stale", ""), file("w2", log(dropA)+log(giveW)[:12], "")),
		drive(900, m(3, 2), r(2, onlyA), file("w3", log(putB), ""), file("w2", "elder", ""), file("w4", log(dropA)[:3], ""), file("w1", "elder", "")),
	} {
		want, e := Open(d)
		if e != api.OK {
			t.Fatal(e)
		}
		fuse := 0
		for ; ; fuse++ {
			cut, _, _, e := wal.Recover(armed(d, fuse), want.From)
			if _, e1 := Open(armed(d, fuse)); e1 != e {
				t.Errorf("%s, %d: %d; want %d", showDisk(d), fuse, e1, e)
			}
			if e == api.OK {
				break
			}
			for _, keeps := range waysToKeep(cut) {
				got, e := Open(disk.Crash(cut, keeps))
				if e != api.OK || !alikeStates(got.S, want.S) || got.From != want.From || got.Seg != want.Seg || got.Run != want.Run {
					t.Errorf("%s, %d, keeping %d: %s, %d; want %s", showDisk(d), fuse, keeps, show(got), e, show(want))
				}
			}
		}
		if fuse == 0 {
			t.Errorf("%s: nothing was cut", showDisk(d))
		}
	}
}

// TestP8_6Room: without room to cut a segment a store isn't opened; with room it is as it ought to be.
func TestP8_6Room(t *testing.T) {
	n, k := len(log(putA)), len(log(putB))
	for more := k; more < n+k+3; more++ {
		x, _ := Open(drive(n + more))
		p := past{x: x}.goOn(t, putA)
		p.x = Arm(p.x, k-1)
		p = p.goOn(t, putB)
		for keep := range k {
			y, e := Crash(p.x, []int{keep})
			if full := keep > 0 && more-keep < n; full && (e != api.ErrFull || !alike(y, api.Store{})) {
				t.Errorf("room %d, keeping %d: %s, %d", more, keep, show(y), e)
			} else if !full {
				p.behind(t, []int{keep})
			}
		}
	}
}

// TestP8_6Walk: long histories, of commits, checks and crashes, with much room and little.
func TestP8_6Walk(t *testing.T) {
	rng := rand.New(rand.NewSource(8))
	n := map[string]int{}
	for walk := range 60 {
		room := 3000 + 100*walk
		x, _ := Open(drive(room))
		p := past{x: x}
		for i := range 200 {
			switch dice := rng.Intn(20); {
			case dice == 0:
				p = p.goOn(t, checks)
				n["checks"]++
			case dice == 1 && !p.x.Down:
				p.x = Arm(p.x, rng.Intn(400))
			case dice == 2 || p.x.Down && dice < 9:
				if y, e := Crash(p.x, []int{rng.Intn(90), rng.Intn(90), rng.Intn(90), rng.Intn(90)}); e == api.ErrFull && y.S.Data == nil {
					n["full"]++ // no room to cut: what waits isn't kept, then
					p = p.behind(t, nil)
				}
				p = p.behind(t, []int{rng.Intn(90), rng.Intn(90), rng.Intn(90), rng.Intn(90)})
				n["crashes"]++
			default:
				b := does(fmt.Sprint("t", i-rng.Intn(3)), put(fmt.Sprint("k", rng.Intn(9)), text(rng.Intn(65))))
				if dice%4 == 0 {
					b.Writes[0] = del(b.Writes[0].Key)
				}
				if dice == 19 {
					b = giveUp(b.Token)
				}
				p = p.goOn(t, b)
			}
		}
		sum := p.x.D.Room
		for _, f := range p.x.D.Files {
			sum += len(f.Safe) + len(f.Wait)
		}
		if sum != room {
			t.Errorf("room %d, and %d now", room, sum)
		}
		n["sure"] += len(p.sure)
		if t.Failed() {
			return
		}
	}
	if n["crashes"] < 500 || n["checks"] < 300 || n["sure"] < 5000 {
		t.Errorf("%v", n)
	}
}
