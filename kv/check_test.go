package kv

import (
	"fmt"
	"math"
	"slices"
	"strings"
	"testing"

	"stanchion/api"
	"stanchion/batch"
	"stanchion/disk"
	"stanchion/run"
	"stanchion/wal"
)

// toldCheck is Check, as its words tell it.
func toldCheck(x api.Store) (api.Store, api.Errno) {
	if x.Down {
		return x, api.ErrDead
	}
	if x.Seg >= 1000000 || x.Run >= 1000000 {
		return x, api.ErrFull
	}
	n, from := x.Run+1, x.From
	s, e := run.Bytes(batch.Pairs(x.S))
	if e != api.OK {
		return x, e
	}
	if x.D, e = run.Lay(x.D, RunName(n), s); e != api.OK {
		x.Down = e == api.ErrDead
		return x, e
	}
	if x.D, e = run.Lay(x.D, "m", sealed(fmt.Sprintf("%d;%d;", max(0, x.Seg+1), n))); e != api.OK {
		x.Down = e == api.ErrDead
		return x, e
	}
	x.From, x.Seg, x.Run = x.Seg+1, x.Seg+1, n
	if _, is := disk.Find(x.D, RunName(n-1)); is {
		if x.D, e = disk.Delete(x.D, RunName(n-1)); e != api.OK {
			x.Down = e == api.ErrDead
			return x, e
		}
	}
	x.D, e = wal.Drop(x.D, from, x.From)
	x.Down = e == api.ErrDead
	return x, e
}

// wantCheck: what a check makes of a store.
func wantCheck(t *testing.T, x, after api.Store, e api.Errno) {
	t.Helper()
	wantCall(t, "Check", x, Check, after, e)
}

// has is d with these files alone, and what room they leave.
func has(d api.Disk, l ...api.File) api.Disk {
	for _, f := range d.Files {
		d.Room += len(f.Safe) + len(f.Wait)
	}
	for _, f := range l {
		d.Room -= len(f.Safe) + len(f.Wait)
	}
	d.Files = l
	return d
}

// r is a run's file, that is safe.
func r(n int, s api.State) api.File {
	return file(fmt.Sprint("r", n), runText(s), "")
}

// states are some that are right.
func states() []api.State {
	return []api.State{{}, onlyA, bothAB, allOf, state(nil, row("t", "g")), state(row("a", ""), nil), state(row("", "", "\x00", text(64), "\xff", "\xff"), row("", "c", "\xff\xff", "g")), state(row("a", "1"), row("t", "", "u", "x"))}
}

// TestP8_4Check: of the empty state, and of others; with an elder run that is there, and one that isn't; the segments from the old From up to the new one go, others stay.
func TestP8_4Check(t *testing.T) {
	w := func(seg int) api.File {
		return file(fmt.Sprint("w", seg), fmt.Sprint("segment ", seg), fmt.Sprint(seg))
	}
	y, z := file("y", "a", "b"), file("z", "", "c")
	for _, s := range states() {
		for _, x := range []struct {
			files          []api.File
			from, seg, run int
			stay           []api.File
		}{
			{nil, 1, 1, 0, nil},
			{[]api.File{y, z}, 1, 1, 0, []api.File{y, z}},
			{[]api.File{w(1)}, 1, 1, 0, nil},
			{[]api.File{y, w(1), w(2), z, w(3)}, 1, 3, 0, []api.File{y, z}},
			{[]api.File{w(3), y, w(1), z, w(2)}, 2, 3, 0, []api.File{y, w(1), z}},
			{[]api.File{w(3), y, w(1), z, w(4), w(5)}, 1, 3, 0, []api.File{y, z, w(4), w(5)}},
			{[]api.File{w(1), w(3), w(4)}, 3, 2, 0, []api.File{w(1), w(3), w(4)}},
			{[]api.File{w(1), w(3), w(4)}, 4, 2, 0, []api.File{w(1), w(3), w(4)}},
			{[]api.File{w(1), w(3), w(4)}, math.MaxInt, 2, 0, []api.File{w(1), w(3), w(4)}},
			{[]api.File{w(1), w(2), file("w0", "0", ""), file("w", "", ""), file("w-1", "", ""), file("w01", "", "")}, 0, 1, 0, []api.File{w(2), file("w0", "0", ""), file("w", "", ""), file("w-1", "", ""), file("w01", "", "")}},
			{[]api.File{w(1), w(2)}, math.MinInt, 1, 0, []api.File{w(2)}},
			{[]api.File{w(1), w(2)}, 0, 0, 0, []api.File{w(1), w(2)}},
			{[]api.File{m(1, 1), r(1, onlyA), w(1), y}, 1, 1, 1, []api.File{y}},
			{[]api.File{m(7, 4), r(4, allOf), w(7), w(8), y}, 7, 8, 4, []api.File{y}},
			{[]api.File{r(5, bothAB), w(7), y, w(8), r(4, allOf), m(7, 4), r(3, onlyA), r(6, onlyA)}, 7, 8, 4, []api.File{y, r(3, onlyA), r(6, onlyA)}},
			{[]api.File{w(7), y, w(8), m(7, 4), r(3, onlyA)}, 7, 8, 4, []api.File{y, r(3, onlyA)}},
			{[]api.File{w(7), w(7), r(4, onlyA), r(4, bothAB), file("r04", "", "")}, 7, 8, 4, []api.File{w(7), r(4, bothAB), file("r04", "", "")}},
			{[]api.File{file("", "none", ""), y, file("r0", "", ""), file("r", "", "")}, 1, 1, 0, []api.File{y, file("r0", "", ""), file("r", "", "")}},
			{[]api.File{file("", "none", ""), y}, 1, 1, 1, []api.File{file("", "none", ""), y}},
			{[]api.File{w(999998), w(999999), w(1000000), m(1, 1), r(999999, s), r(999998, s)}, 1, 999999, 999999, []api.File{w(1000000), r(999998, s)}},
			{[]api.File{file("n.m", "old", "er"), y, file("n.r5", "old", "er"), file("n.r4", "", "")}, 1, 1, 4, []api.File{y, file("n.r4", "", "")}},
		} {
			now := append(slices.Clone(x.stay), r(x.run+1, s), m(x.seg+1, x.run+1))
			for _, room := range []int{400, 999} {
				d := drive(room, x.files...)
				wantCheck(t, store(d, x.from, x.seg, x.run, s), store(has(d, now...), x.seg+1, x.seg+1, x.run+1, s), api.OK)
			}
		}
	}
}

// TestP8_4CheckTwice: a check behind a check, with a commit in between and without; what is opened of each is the same.
func TestP8_4CheckTwice(t *testing.T) {
	for _, s := range states() {
		y := file("y", "a", "b")
		d := drive(700, y, file("w4", log(putA), ""))
		x := store(d, 4, 4, 0, s)
		for n := 1; n < 12; n++ {
			after := store(has(d, y, r(n, s), m(4+n, n)), 4+n, 4+n, n, s)
			wantCheck(t, x, after, api.OK)
			x = after
			d = x.D
			got, e := Open(x.D)
			if _, wrong := batch.Back(batch.Pairs(s)); wrong == api.OK && (e != api.OK || !alike(got, x)) {
				t.Errorf("%s, opened %s, %d", show(x), show(got), e)
			}
			if n%3 == 0 {
				b := does(fmt.Sprint("n", n), put("n", fmt.Sprint(n)))
				s, _ = batch.Do(s, b)
				var e api.Errno
				if x, e = Commit(x, b); e != api.OK || !alikeStates(x.S, s) {
					t.Fatalf("%s, %d", show(x), e)
				}
				d = x.D
			}
		}
	}
}

// TestP8_4CheckFull: numbers of which there is none more, and a store that is Down: the store is as it was, whatever else is wrong.
func TestP8_4CheckFull(t *testing.T) {
	files := []api.File{m(1, 1), r(1, onlyA), file("w1", log(putA), ""), file("n.m", "x", ""), file("n.r2", "x", ""), file("n.r1000000", "x", "")}
	disks := []api.Disk{drive(900, files...), drive(0), off(drive(900, files...)), armed(drive(900, files...), 0), filled(drive(900, files...), 64)}
	numbers := []int{math.MinInt, -1, 0, 1, 999999, 1000000, 1000001, math.MaxInt - 1, math.MaxInt}
	for _, d := range disks {
		for _, seg := range numbers {
			for _, run := range numbers {
				for _, s := range []api.State{onlyA, state(row("b", "", "a", ""), nil)} {
					x := store(d, 1, seg, run, s)
					wantCheck(t, down(x), down(x), api.ErrDead)
					if seg >= 1000000 || run >= 1000000 {
						wantCheck(t, x, x, api.ErrFull)
					} else {
						wantToldCheck(t, x)
					}
				}
			}
		}
	}
}

// wantToldCheck: a check's answer is the told one.
func wantToldCheck(t *testing.T, x api.Store) api.Errno {
	t.Helper()
	after, e := toldCheck(x)
	wantCheck(t, x, after, e)
	return e
}

// TestP8_4CheckState: states of which there is no run, ahead of what is wrong with the disk; and such as are too great for a file.
func TestP8_4CheckState(t *testing.T) {
	stale := file("n.r5", "stale", "")
	disks := []api.Disk{drive(200000, stale), drive(0, stale), off(drive(200000, stale)), armed(drive(200000, stale), 0), filled(drive(200000, stale), 64)}
	for _, s := range []api.State{
		state(row("b", "", "a", ""), nil), state(nil, row("b", "c", "a", "c")), state(row("a", "", "a", ""), nil), state(row("a", ""), row("t", "c", "t", "c")), state(row("a", "", "b", "", "b", "x"), row("t", "c")),
		state(row(text(65536), ""), nil), state(nil, row(text(65536), "c")), state(row("a", text(65537)), nil), state(row("a", ""), row("t", text(65537))), state(row("a", "", text(65536), ""), row("t", "c")),
	} {
		for _, d := range disks {
			x := store(d, 1, 1, 4, s)
			wantCheck(t, x, x, api.ErrArg)
			wantCheck(t, down(x), down(x), api.ErrDead)
		}
		for _, seg := range []int{-1, 0, 1000000} {
			wantToldCheck(t, store(drive(9), 1, seg, 4, s))
		}
	}
	for _, s := range []api.State{state(row("a", text(65536)), nil), state(row(text(65535), ""), nil), state(row("a", text(33000), "b", text(33000)), row("t", "c"))} {
		x := store(drive(200000, stale), 1, 1, 4, s)
		wantCheck(t, x, store(drive(200005), 1, 1, 4, s), api.ErrBig)
		x = store(off(x.D), 1, 1, 4, s)
		wantCheck(t, x, down(x), api.ErrDead)
		x = store(armed(drive(9, stale), 0), 1, 1, 4, s)
		wantCheck(t, x, down(store(off(x.D), 1, 1, 4, s)), api.ErrDead)
	}
	most := state(row("a", text(60000), "b", ""), nil)
	for n := range 6000 {
		most.Data[1].Val = text(n)
		if len(runText(most)) >= 65536 {
			break
		}
	}
	if len(runText(most)) != 65536 {
		t.Fatalf("%d bytes", len(runText(most)))
	}
	d := drive(66000)
	wantCheck(t, store(d, 1, 1, 0, most), store(has(d, r(1, most), m(2, 1)), 2, 2, 1, most), api.OK)
	most.Toks = row("t", "c")
	wantCheck(t, store(d, 1, 1, 0, most), store(d, 1, 1, 0, most), api.ErrBig)
}

// TestP8_4CheckRoom: without room for the run, for a part of it, and for a part of the manifest; and where no file more may be.
func TestP8_4CheckRoom(t *testing.T) {
	s, b := allOf, runText(allOf)
	n, k := len(b), len(m(4, 3).Safe)
	for _, files := range [][]api.File{nil, {m(2, 2), r(2, onlyA), file("w2", log(putA), ""), file("w3", log(putB), "")}, {file("n.m", "", ""), m(2, 2), file("n.r3", "", "")}} {
		for room := range n + k + 3 {
			d := drive(room, files...)
			x := store(d, 2, 3, 2, s)
			without := slices.DeleteFunc(slices.Clone(files), func(f api.File) bool { return f.Name == "n.r3" })
			switch {
			case room < n:
				wantCheck(t, x, store(has(d, without...), 2, 3, 2, s), api.ErrFull)
			case room < n+k:
				without = slices.DeleteFunc(without, func(f api.File) bool { return f.Name == "n.m" })
				wantCheck(t, x, store(has(d, append(without, r(3, s))...), 2, 3, 2, s), api.ErrFull)
			default:
				wantCheck(t, x, store(has(d, r(3, s), m(4, 3)), 4, 4, 3, s), api.OK)
			}
		}
	}
	for _, room := range []int{n, n + k - 5} { // what an elder file of the run's name, or of a fresh one, leaves is room, too
		d := drive(room-8, file("r3", "12", "34"), file("n.r3", text(8), ""))
		wantCheck(t, store(d, 1, 3, 2, s), store(has(drive(room+4), r(3, s)), 1, 3, 2, s), api.ErrFull)
		d = drive(room-8, file("r3", text(99), ""), file("n.r3", text(8), ""))
		wantCheck(t, store(d, 1, 3, 2, s), store(has(d, r(3, s), m(4, 3)), 4, 4, 3, s), api.OK)
	}
	at := func(d api.Disk) api.Store { return store(d, 2, 3, 2, s) }
	files := func(l ...api.File) api.Disk { return drive(999, l...) }
	for _, many := range []int{64, 65, 70} {
		d := filled(files(), many)
		wantCheck(t, at(d), at(d), api.ErrFull)
	}
	d := filled(files(), 63)
	wantCheck(t, at(d), at(has(d, append(slices.Clone(d.Files), r(3, s))...)), api.ErrFull)
	d = filled(files(r(3, onlyA)), 63) // what is laid takes the place of an elder one
	wantCheck(t, at(d), store(has(d, append(slices.Clone(d.Files[1:]), r(3, s), m(4, 3))...), 4, 4, 3, s), api.OK)
	d = filled(files(file("n.r3", "x", ""), file("n.m", "y", "")), 64)
	wantCheck(t, at(d), store(has(d, append(slices.Clone(d.Files[2:]), r(3, s), m(4, 3))...), 4, 4, 3, s), api.OK)
	d = filled(files(), 62)
	wantCheck(t, at(d), store(has(d, append(slices.Clone(d.Files), r(3, s), m(4, 3))...), 4, 4, 3, s), api.OK)
}

// TestP8_4CheckNumbers: numbers below 0: no run has such a number, the manifest has it as 0.
func TestP8_4CheckNumbers(t *testing.T) {
	s := onlyA
	for _, run := range []int{math.MinInt, -1000000, -2, -1} {
		d := drive(900, file("n.", "stale", ""), file("y", "", ""))
		laid := has(d, file("y", "", ""), file("n.", runText(s), ""))
		wantCheck(t, store(d, 1, 1, run, s), store(laid, 1, 1, run, s), api.ErrArg)
		wantCheck(t, store(off(d), 1, 1, run, s), down(store(off(d), 1, 1, run, s)), api.ErrDead)
	}
	for _, seg := range []int{math.MinInt, -7, -2, -1} {
		d := drive(900, file("w1", "", ""), file("r2", "x", ""))
		wantCheck(t, store(d, 1, seg, 2, s), store(has(d, file("w1", "", ""), r(3, s), m(0, 3)), seg+1, seg+1, 3, s), api.OK)
	}
	d := drive(900, file("w1", "", ""), file("r2", "x", ""))
	wantCheck(t, store(d, 0, 0, 2, s), store(has(d, file("w1", "", ""), r(3, s), m(1, 3)), 1, 1, 3, s), api.OK)
}

// TestP8_4CheckFuse: the power goes at each byte and each step of a check.
func TestP8_4CheckFuse(t *testing.T) {
	s, run, elder := allOf, runText(allOf), runText(onlyA)
	w3, w4, y := file("w3", log(putB), "x"), file("w4", log(dropA), ""), file("y", "a", "b")
	man := m(5, 3).Safe
	stale, stale1 := file("n.r3", "old", "er"), file("n.m", "", "")
	d := drive(999, stale, m(3, 2), file("r2", elder, ""), w3, stale1, y, w4)
	step := func(fuse int, after api.Store) {
		t.Helper()
		x := store(armed(d, fuse), 3, 4, 2, s)
		after.D = off(armed(after.D, 0))
		wantCheck(t, x, down(after), api.ErrDead)
	}
	before := func(l ...api.File) api.Store { return store(has(d, l...), 3, 4, 2, s) }
	behind := func(l ...api.File) api.Store { return store(has(d, l...), 5, 5, 3, s) }
	step(0, store(d, 3, 4, 2, s))
	fuse := 1 // the stale n.r3 is gone
	old := []api.File{m(3, 2), file("r2", elder, ""), w3, stale1, y, w4}
	for i := range run {
		step(fuse+i, before(append(slices.Clone(old), file("n.r3", "", run[:i]))...))
	}
	fuse += len(run)
	step(fuse, before(append(slices.Clone(old), file("n.r3", run, ""))...))
	fuse++ // the run is laid
	step(fuse, before(append(slices.Clone(old), r(3, s))...))
	fuse++ // the stale n.m is gone
	old = []api.File{m(3, 2), file("r2", elder, ""), w3, y, w4, r(3, s)}
	for i := range man {
		step(fuse+i, before(append(slices.Clone(old), file("n.m", "", man[:i]))...))
	}
	fuse += len(man)
	step(fuse, before(append(slices.Clone(old), file("n.m", man, ""))...))
	fuse++ // the manifest is laid
	step(fuse, behind(file("r2", elder, ""), w3, y, w4, r(3, s), m(5, 3)))
	step(fuse+1, behind(w3, y, w4, r(3, s), m(5, 3)))
	step(fuse+2, behind(y, w4, r(3, s), m(5, 3)))
	for more := range 3 {
		x := store(armed(d, fuse+3+more), 3, 4, 2, s)
		wantCheck(t, x, store(armed(has(d, y, r(3, s), m(5, 3)), more), 5, 5, 3, s), api.OK)
	}
	x := store(off(d), 3, 4, 2, s)
	wantCheck(t, x, down(x), api.ErrDead)
}

// TestP8_4Told: every answer is the told one.
func TestP8_4Told(t *testing.T) {
	n := map[api.Errno]int{}
	for _, x := range stores() {
		n[wantToldCheck(t, x)]++
		if t.Failed() {
			return
		}
	}
	if len(n) != 4 {
		t.Errorf("%v", n)
	}
	long := state(row("a", strings.Repeat(text(64), 3)), row("t", "c"))
	for fuse := range 400 {
		for _, files := range lists(2, m(1, 1), file("n.m", "x", ""), file("r1", "", "y"), file("r2", "", "y"), file("n.r2", "", "z"), file("w1", "1", ""), file("w2", "", "2"), file("w3", "", "3")) {
			x := store(armed(drive(700, files...), fuse), 1, 2, 1, long)
			after, e := toldCheck(x)
			if got, e1 := Check(x); !alike(got, after) || e1 != e {
				t.Fatalf("%s:\n%s, %d; want\n%s, %d", show(x), show(got), e1, show(after), e)
			}
		}
	}
}
