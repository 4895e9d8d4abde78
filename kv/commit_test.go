package kv

import (
	"fmt"
	"math"
	"slices"
	"strings"
	"testing"

	"stanchion/api"
	"stanchion/batch"
	"stanchion/wal"
)

// toldCommit is Commit, as its words tell it.
func toldCommit(x api.Store, b api.Batch) (api.Store, api.Errno) {
	if x.Down {
		return x, api.ErrDead
	}
	if !batch.May(b) {
		return x, api.ErrArg
	}
	if _, is := batch.Decided(x.S, b.Token); is {
		return x, api.ErrThere
	}
	var e api.Errno
	if x.D, x.Seg, e = wal.Put(x.D, x.Seg, rec(b)); e != api.OK {
		x.Down = e == api.ErrDead
		return x, e
	}
	if x.D, e = wal.Sync(x.D, x.Seg); e != api.OK {
		x.Down = e == api.ErrDead
		return x, e
	}
	x.S, _ = batch.Do(x.S, b)
	return x, api.OK
}

// wantCommit: what a commit makes of a store; the batch that is handed in isn't written into, spare room neither.
func wantCommit(t *testing.T, x api.Store, b api.Batch, after api.Store, e api.Errno) {
	t.Helper()
	what := fmt.Sprintf("Commit of %.100q", rec(b))
	in := b
	in.Writes = roomy(b.Writes, spareWrite)
	wantCall(t, what, x, func(x api.Store) (api.Store, api.Errno) {
		y, e := Commit(x, in)
		kept := roomyStore(y)
		spoil(in.Writes, spareWrite)
		if !alike(y, kept) {
			t.Errorf("%s: what was handed in changed what it told", what)
		}
		copy(in.Writes, b.Writes)
		return y, e
	}, after, e)
	wantUntouched(t, in.Writes, b.Writes, spareWrite, what)
}

// wantToldCommit: a commit's answer is the told one.
func wantToldCommit(t *testing.T, x api.Store, b api.Batch) api.Errno {
	t.Helper()
	after, e := toldCommit(x, b)
	wantCommit(t, x, b, after, e)
	return e
}

// TestP8_3Commit: into a segment that isn't there, that is, that is full or just not; the state is as the batch makes it, and the disk has it safe.
func TestP8_3Commit(t *testing.T) {
	y := file("y", "a", "b")
	for _, x := range []struct {
		b     api.Batch
		s     api.State
		after api.State
	}{
		{does("t"), api.State{}, state(nil, row("t", "c"))},
		{giveUp("t"), api.State{}, state(nil, row("t", "g"))},
		{putA, api.State{}, onlyA},
		{putB, onlyA, bothAB},
		{dropA, bothAB, state(row("b", "2", "c", ""), row("t", "c", "u", "c", "v", "c"))},
		{giveUp("s"), bothAB, state(bothAB.Data, row("s", "g", "t", "c", "u", "c"))},
		{does(text(16), put(text(32), text(64)), del("b")), state(nil, row("t", "g")), state(row(text(32), text(64)), row(text(16), "c", "t", "g"))},
		{does("\xff", put("\x00", "\xff"), put("\xff", "\x00")), api.State{}, state(row("\x00", "\xff", "\xff", "\x00"), row("\xff", "c"))},
	} {
		s, first := log(x.b), log(does("first", put("f", "")))
		n, k := len(s), len(first)
		wantCommit(t, store(drive(n), 1, 1, 0, x.s), x.b, store(drive(0, file("w1", s, "")), 1, 1, 0, x.after), api.OK)
		wantCommit(t, store(drive(n+9, y), 3, 3, 7, x.s), x.b, store(drive(9, y, file("w3", s, "")), 3, 3, 7, x.after), api.OK)
		wantCommit(t, store(drive(n+9, file("w3", first, ""), y), 1, 3, 7, x.s), x.b, store(drive(9, file("w3", first+s, ""), y), 1, 3, 7, x.after), api.OK)
		wantCommit(t, store(drive(n+9, file("w3", first[:k/2], first[k/2:]), y), 1, 3, 7, x.s), x.b, store(drive(9, file("w3", first+s, ""), y), 1, 3, 7, x.after), api.OK)
		wantCommit(t, store(armed(drive(n, y), n), 3, 3, 7, x.s), x.b, store(armed(drive(0, y, file("w3", s, "")), 0), 3, 3, 7, x.after), api.OK)
		wantCommit(t, store(armed(drive(n, y), n+3), 3, 3, 7, x.s), x.b, store(armed(drive(0, y, file("w3", s, "")), 3), 3, 3, 7, x.after), api.OK)
		for _, seg := range []int{1, 9, 10, 999999} {
			this, next := fmt.Sprint("w", seg), fmt.Sprint("w", seg+1)
			wantCommit(t, store(drive(n, file(this, "", text(255)), y), 1, seg, 0, x.s), x.b, store(drive(0, file(this, text(255)+s, ""), y), 1, seg, 0, x.after), api.OK)
			wantCommit(t, store(drive(n, file(this, "", text(256)), y), 1, seg, 0, x.s), x.b, store(drive(0, file(this, text(256), ""), y, file(next, s, "")), 1, seg+1, 0, x.after), api.OK)
			wantCommit(t, store(drive(n, file(next, first, ""), file(this, text(200), text(99))), 1, seg, 0, x.s), x.b, store(drive(0, file(next, first+s, ""), file(this, text(200)+text(99), "")), 1, seg+1, 0, x.after), api.OK)
		}
		wantCommit(t, store(drive(n, file("w1000000", text(255), "")), 1, 1000000, 0, x.s), x.b, store(drive(0, file("w1000000", text(255)+s, "")), 1, 1000000, 0, x.after), api.OK)
	}
}

// noBatches are batches that may not be.
func noBatches() []api.Batch {
	var many []api.Write
	for i := range 25 {
		many = append(many, put(fmt.Sprintf("%02d", i), ""))
	}
	return []api.Batch{
		{}, {Token: "t"}, {Kind: 3, Token: "t"}, {Kind: -1, Token: "t"}, does(""), giveUp(""), does(text(17)), giveUp(text(17)), {Kind: 2, Token: "t", Writes: putA.Writes},
		does("t", many...), does("t", put("", "1")), does("t", put(text(33), "1")), does("t", put("a", text(65))), does("t", put("b", "1"), put("a", "1")), does("t", put("a", "1"), del("a")), does("t", api.Write{Key: "a", Val: "1", Del: true}),
	}
}

// TestP8_3CommitWrong: a store that is Down, batches that may not be, tokens that are decided: of several errors the first one is told, and the store as it was.
func TestP8_3CommitWrong(t *testing.T) {
	s := state(row("a", "1"), row("", "c", "T", "", "t", "c", "u", "g", text(17), "c"))
	decided := []api.Batch{does("t"), putA, putB, giveUp("t"), giveUp("u"), does("T", del("a"))}
	disks := []api.Disk{drive(9000), drive(0), off(drive(9)), armed(drive(9000), 0), drive(9000, file("w4", text(256), "wait")), filled(drive(9000), 64), {}}
	for _, d := range disks {
		for _, seg := range []int{4, 0, -1, 1000001} {
			x := store(d, 2, seg, 1, s)
			for _, b := range noBatches() {
				wantCommit(t, x, b, x, api.ErrArg)
				wantCommit(t, down(x), b, down(x), api.ErrDead)
			}
			for _, b := range decided {
				wantCommit(t, x, b, x, api.ErrThere)
				wantCommit(t, down(x), b, down(x), api.ErrDead)
			}
			wantCommit(t, down(x), does("new", put("a", "2")), down(x), api.ErrDead)
			b := does("t", put("b", "1"), put("a", "1")) // decided, and may not be
			wantCommit(t, x, b, x, api.ErrArg)
		}
	}
}

// TestP8_3CommitDisk: errors of the disk: the store has the disk that was told, and the segment; it is Down, if the power is gone, and only then.
func TestP8_3CommitDisk(t *testing.T) {
	s, n := onlyA, len(log(putB))
	at := func(d api.Disk, seg int) api.Store { return store(d, 2, seg, 1, s) }
	for room := range n {
		x := at(drive(room, file("w3", "x", "y")), 3)
		wantCommit(t, x, putB, x, api.ErrFull)
		wantCommit(t, at(drive(room, file("w3", text(255), "y")), 3), putB, at(drive(room, file("w3", text(255)+"y", "")), 4), api.ErrFull)
	}
	for _, k := range []int{64, 65} {
		wantCommit(t, at(filled(drive(n), k), 3), putB, at(filled(drive(n), k), 3), api.ErrFull)
		wantCommit(t, at(filled(drive(n, file("w3", text(256), "")), k), 3), putB, at(filled(drive(n, file("w3", text(256), "")), k), 4), api.ErrFull)
		wantCommit(t, at(filled(drive(n, file("w3", text(255), "")), k), 3), putB, store(filled(drive(0, file("w3", text(255)+log(putB), "")), k), 2, 3, 1, bothAB), api.OK)
	}
	for _, seg := range []int{math.MinInt, -1, 0, 1000001, math.MaxInt} {
		for _, d := range []api.Disk{drive(n), off(drive(n)), armed(drive(n), 0), drive(n, file("", text(300), "x")), drive(n, file("w0", text(300), "x"))} {
			wantCommit(t, at(d, seg), putB, at(d, seg), api.ErrArg)
		}
	}
	full := drive(n, file("w1000000", text(255), "y"))
	wantCommit(t, at(full, 1000000), putB, at(drive(n, file("w1000000", text(255)+"y", "")), 1000000), api.ErrFull)
	wantCommit(t, at(off(full), 1000000), putB, down(at(off(full), 1000000)), api.ErrDead)
	for _, d := range []api.Disk{drive(n), drive(0), filled(drive(0), 64), drive(n, file("w3", text(256), "y")), drive(n, file("w3", "x", "y"))} {
		wantCommit(t, at(off(d), 3), putB, down(at(off(d), 3)), api.ErrDead)
	}
	old := strings.Repeat(text(26), 10)
	for fuse := range n {
		part := log(putB)[:fuse]
		wantCommit(t, at(armed(drive(n), fuse), 3), putB, down(at(off(armed(drive(n-fuse, file("w3", "", part)), 0)), 3)), api.ErrDead)
		wantCommit(t, at(armed(drive(n, file("w3", "x", "y")), fuse), 3), putB, down(at(off(armed(drive(n-fuse, file("w3", "x", "y"+part)), 0)), 3)), api.ErrDead)
		wantCommit(t, at(armed(drive(n, file("w3", "", old)), fuse), 3), putB, down(at(off(armed(drive(n-fuse, file("w3", old, ""), file("w4", "", part)), 0)), 4)), api.ErrDead)
	}
}

// TestP8_3CommitBig: a batch that may be, and whose bytes are more than a record's.
func TestP8_3CommitBig(t *testing.T) {
	var least, most api.Batch
	for n := 1900; n < 2400; n++ {
		b := great("t", n)
		last := &b.Writes[len(b.Writes)-1]
		last.Val = last.Val[:max(0, 64-(len(rec(b))-n))]
		switch len(rec(b)) {
		case 2048:
			most = b
		case 2049:
			least = b
		}
	}
	if most.Kind == 0 || least.Kind == 0 || !batch.May(most) || !batch.May(least) {
		t.Fatalf("%d and %d bytes", len(rec(most)), len(rec(least)))
	}
	for _, d := range []api.Disk{drive(5000), drive(0), drive(5000, file("w3", "", text(256))), off(drive(5000)), armed(drive(5000), 9)} {
		x := store(d, 2, 3, 1, onlyA)
		x.S.Toks = nil
		wantCommit(t, x, least, x, api.ErrBig)
		wantCommit(t, x, great("t", 2200), x, api.ErrBig)
		wantToldCommit(t, x, most)
	}
	x, e := Commit(store(drive(5000), 1, 1, 0, api.State{}), most)
	if y, e1 := Crash(x, nil); e != api.OK || e1 != api.OK || !alike(x, y) || len(y.S.Data) != len(most.Writes) {
		t.Errorf("%d, %d: %s", e, e1, show(y))
	}
	long := strings.Repeat(text(1000), 66)[:65536-200]
	x = store(drive(5000, file("w3", long, "")), 2, 3, 1, onlyA) // such a segment is full long since
	wantCommit(t, x, putB, store(drive(5000-len(log(putB)), file("w3", long, ""), file("w4", log(putB), "")), 2, 4, 1, bothAB), api.OK)
	x = store(drive(5000, file("w3", text(256), ""), file("w4", long+text(180), "")), 2, 3, 1, onlyA) // such a next one may be handed in
	wantCommit(t, x, putB, store(drive(5000, file("w3", text(256), ""), file("w4", long+text(180), "")), 2, 4, 1, onlyA), api.ErrBig)
}

// stores are some, of disks with room and without, with power and without, with files that are in the way, of numbers at the edges.
func stores() []api.Store {
	var l []api.Store
	files := lists(2, file("w1", log(putA), ""), file("w1", text(255), "x"), file("w2", text(200), text(56)), file("w1000000", text(256), ""), file("w999999", "", text(256)), m(1, 1), file("r1", "one", ""), file("r2", "two", "2"), file("n.m", "new", ""), file("n.r2", "", "new"), file("", "none", ""))
	files = append(files, filled(drive(0), 64).Files, filled(drive(0, file("m", "odd", "")), 63).Files)
	states := []api.State{{}, onlyA, allOf, state(row("b", "1", "a", "2"), row("t", "c"))}
	numbers := [][3]int{{1, 1, 0}, {1, 2, 1}, {2, 2, 1}, {1, 999999, 1}, {999999, 1000000, 1}, {0, -1, -1}, {-3, 0, 999999}, {1, 1, 1000000}, {math.MinInt, math.MinInt, math.MinInt}, {math.MaxInt, 5, 1}, {1, math.MaxInt, math.MaxInt}}
	for i, f := range files {
		for j, n := range numbers {
			s := states[(i+j)%len(states)]
			for _, d := range []api.Disk{drive(900, f...), drive(45, f...), armed(drive(900, f...), 2), armed(drive(900, f...), 60), off(drive(900, f...))} {
				l = append(l, store(d, n[0], n[1], n[2], s))
			}
			l = append(l, down(store(drive(900, f...), n[0], n[1], n[2], s)))
		}
	}
	return l
}

// TestP8_3Told: every answer is the told one.
func TestP8_3Told(t *testing.T) {
	n := map[api.Errno]int{}
	all := []api.Batch{does("t"), putB, giveUp("w"), does("new", put("a", "1"), del("b")), does(""), great("x", 2100)}
	for i, x := range stores() {
		for _, k := range []int{i + i/6, i + i/6 + 1, i} {
			n[wantToldCommit(t, x, all[k%len(all)])]++
		}
		if t.Failed() {
			return
		}
	}
	if len(n) != 6 {
		t.Errorf("%v", n)
	}
}

// TestP8_3Many: one commit after the other: the segments fill, each record is where it belongs, and each store is opened as it is.
func TestP8_3Many(t *testing.T) {
	x := store(drive(60000), 1, 1, 0, api.State{})
	for i := range 100 {
		b := does(fmt.Sprint("t", i), put(fmt.Sprint("k", i%7), text(i%64)), put(fmt.Sprint("l", i%5), fmt.Sprint(i)))
		if i%10 == 3 {
			b = giveUp(b.Token)
		}
		wantToldCommit(t, x, b)
		x, _ = Commit(x, b)
		if y, e := Open(x.D); e != api.OK || !alike(x, y) || slices.ContainsFunc(x.D.Files, func(f api.File) bool { return f.Wait != "" }) {
			t.Fatalf("%s, opened %s, %d", show(x), show(y), e)
		}
	}
	if x.Seg < 20 || len(x.S.Toks) != 100 || len(x.S.Data) != 12 || len(x.D.Files) != x.Seg {
		t.Error(show(x))
	}
}
