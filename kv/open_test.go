package kv

import (
	"fmt"
	"slices"
	"testing"

	"stanchion/api"
	"stanchion/batch"
	"stanchion/disk"
	"stanchion/run"
	"stanchion/wal"
)

// toldOpen is Open, as its words tell it.
func toldOpen(d api.Disk) (api.Store, api.Errno) {
	from, n, s := 1, 0, api.State{}
	if bytes, e := disk.Read(d, "m"); e == api.OK {
		if from, n, e = TakeManifest(bytes); e != api.OK {
			return api.Store{}, api.ErrForm
		}
	}
	if n > 0 {
		l, e := run.Load(d, fmt.Sprint("r", n))
		if e != api.OK {
			return api.Store{}, api.ErrForm
		}
		if s, e = batch.Back(l); e != api.OK {
			return api.Store{}, api.ErrForm
		}
	}
	after, recs, last, e := wal.Recover(d, from)
	if e != api.OK {
		return api.Store{}, e
	}
	for _, rec := range recs {
		b, e := batch.Take(rec)
		if e != api.OK {
			return api.Store{}, api.ErrForm
		}
		if done, e := batch.Do(s, b); e == api.OK {
			s = done
		}
	}
	return store(after, from, last, n, s), api.OK
}

// wantOpen: what is opened of a disk; nothing that is handed in is written into, spare room neither, and what comes out has memory of its own.
func wantOpen(t *testing.T, d api.Disk, after api.Store, e api.Errno) {
	t.Helper()
	what := "Open of " + showDisk(d)
	in := d
	in.Files = roomy(d.Files, spareFile)
	for range 2 {
		got, e1 := Open(in)
		if !alike(got, after) || e1 != e {
			t.Errorf("%s:\n%s, %d; want\n%s, %d", what, show(got), e1, show(after), e)
		}
		spoilStore(t, got, what)
		wantUntouched(t, in.Files, d.Files, spareFile, what)
	}
}

// wantNoOpen: a disk that can't be opened.
func wantNoOpen(t *testing.T, d api.Disk, e api.Errno) {
	t.Helper()
	wantOpen(t, d, api.Store{}, e)
}

// with is d with a file behind all.
func with(d api.Disk, f ...api.File) api.Disk {
	d.Files = slices.Concat(d.Files, f)
	return d
}

// waiting is d with a part of each file that waits.
func waiting(d api.Disk) api.Disk {
	d.Files = slices.Clone(d.Files)
	for i, f := range d.Files {
		half := len(f.Safe) * i / len(d.Files)
		d.Files[i] = file(f.Name, f.Safe[:half], f.Safe[half:]+f.Wait)
	}
	return d
}

// Some batches, and what they make of each other.
var (
	putA   = does("t", put("a", "1"))
	putB   = does("u", put("a", "2"), put("b", "2"))
	dropA  = does("v", del("a"), put("c", ""))
	giveW  = giveUp("w")
	onlyA  = state(row("a", "1"), row("t", "c"))
	bothAB = state(row("a", "2", "b", "2"), row("t", "c", "u", "c"))
	allOf  = state(row("b", "2", "c", ""), row("t", "c", "u", "c", "v", "c", "w", "g"))
)

// TestP8_2Open: disks without a manifest: no files, files of other names, segments.
func TestP8_2Open(t *testing.T) {
	none := api.State{}
	wantOpen(t, drive(0), store(drive(0), 1, 1, 0, none), api.OK)
	wantOpen(t, drive(10000), store(drive(10000), 1, 1, 0, none), api.OK)
	wantOpen(t, api.Disk{}, store(api.Disk{}, 1, 1, 0, none), api.OK)
	wantOpen(t, off(drive(9)), store(off(drive(9)), 1, 1, 0, none), api.OK)
	other := drive(7, file("M", "x", ""), file("m ", "x", ""), file("n.m", "x", "y"), file("r1", "odd", ""), file("r0", "", ""), file("w2", log(putA), ""), file("w01", log(putA), ""), file("w.new", "x", ""), file("w", log(putA), ""), file("", "", ""))
	wantOpen(t, other, store(other, 1, 1, 0, none), api.OK)
	for _, x := range []struct {
		l    [][]api.Batch
		last int
		s    api.State
	}{
		{[][]api.Batch{nil}, 1, none},
		{[][]api.Batch{nil, nil, nil}, 3, none},
		{[][]api.Batch{{does("t")}}, 1, state(nil, row("t", "c"))},
		{[][]api.Batch{{giveUp("t")}}, 1, state(nil, row("t", "g"))},
		{[][]api.Batch{{putA}}, 1, onlyA},
		{[][]api.Batch{{putA, putB}}, 1, bothAB},
		{[][]api.Batch{{putA}, {putB}}, 2, bothAB},
		{[][]api.Batch{{putA}, nil, {putB, dropA}, {giveW}}, 4, allOf},
		{[][]api.Batch{{putA, putA}, {putA}}, 2, onlyA},
		{[][]api.Batch{{putA, giveUp("t"), does("t", del("a")), putB, giveUp("u")}, {putA}}, 2, bothAB},
		{[][]api.Batch{{giveUp("t"), putA}}, 1, state(nil, row("t", "g"))},
		{[][]api.Batch{{putB, putA}}, 1, state(row("a", "1", "b", "2"), row("t", "c", "u", "c"))},
	} {
		d := drive(3, file("x", "y", "z"))
		for i, l := range x.l {
			s := log(l...)
			d = with(d, file(fmt.Sprint("w", i+1), s[:len(s)/2], s[len(s)/2:]))
		}
		gap := with(d, file(fmt.Sprint("w", len(x.l)+2), log(does("gap")), ""))
		for _, d := range []api.Disk{d, gap, off(d), armed(d, 0)} {
			wantOpen(t, d, store(d, 1, x.last, 0, x.s), api.OK)
		}
	}
}

// TestP8_2OpenManifest: disks with a manifest, with a run and without, with segments behind it and none; what stands ahead of it isn't read.
func TestP8_2OpenManifest(t *testing.T) {
	w := func(seg int, l ...api.Batch) api.File { return file(fmt.Sprint("w", seg), log(l...), "") }
	r := func(n int, s api.State) api.File { return file(fmt.Sprint("r", n), runText(s), "") }
	elder := drive(5, w(1, does("elder")), file("w2", "torn", ""), r(2, onlyA), file("r1", "odd", ""))
	for _, x := range []struct {
		d              api.Disk
		from, seg, run int
		s              api.State
	}{
		{drive(0, m(1, 0)), 1, 1, 0, api.State{}},
		{drive(0, w(1, putA), m(1, 0)), 1, 1, 0, onlyA},
		{with(elder, m(3, 0)), 3, 3, 0, api.State{}},
		{with(elder, m(4, 0), w(4, putA), w(5, putB)), 4, 5, 0, bothAB},
		{with(elder, m(3, 2)), 3, 3, 2, onlyA},
		{with(elder, w(4, does("gap")), m(3, 2)), 3, 3, 2, onlyA},
		{with(elder, w(4), w(3, putB), m(3, 2), w(6, putB)), 3, 4, 2, bothAB},
		{with(elder, w(4, dropA, giveW), w(3, putB), m(3, 2)), 3, 4, 2, allOf},
		{with(elder, w(3, putA, putB, putA), m(3, 2)), 3, 3, 2, bothAB},
		{with(elder, m(3, 7), r(7, api.State{})), 3, 3, 7, api.State{}},
		{with(elder, m(3, 7), r(7, bothAB), w(3, dropA, giveUp("u"), giveW)), 3, 3, 7, allOf},
		{with(elder, m(1000000, 1000000), r(1000000, bothAB)), 1000000, 1000000, 1000000, bothAB},
		{with(elder, m(1000000, 1000000), r(1000000, onlyA), w(1000000, putB), w(1000001, does("no segment"))), 1000000, 1000000, 1000000, bothAB},
		{with(elder, m(999999, 1000000), r(1000000, onlyA), w(1000000, putB), w(999999)), 999999, 1000000, 1000000, bothAB},
		{drive(0, r(1000000, bothAB), m(1, 1000000)), 1, 1, 1000000, bothAB},
		{drive(0, m(2, 0), m(1, 1), w(2, putA), w(2, putB)), 2, 2, 0, onlyA},
	} {
		for _, d := range []api.Disk{x.d, off(x.d), armed(x.d, 0), waiting(x.d)} {
			wantOpen(t, d, store(d, x.from, x.seg, x.run, x.s), api.OK)
		}
	}
}

// TestP8_2OpenManifestOdd: manifests that are none, whatever else is there.
func TestP8_2OpenManifestOdd(t *testing.T) {
	good := Manifest(3, 4)
	odd := []string{"", "odd", good + "!", good + good, "!" + good, Manifest(0, 0), Manifest(-1, 4), Manifest(0, 4), Manifest(1000001, 4), Manifest(3, 1000001), sealed("3;04;"), sealed("3;"), sealed("3;4;5;")}
	for i := range good {
		odd = append(odd, good[:i], good[i+1:], good[:i]+"?"+good[i+1:])
	}
	full := []api.File{file("w3", log(putB), ""), file("r4", runText(onlyA), "")}
	for _, s := range odd {
		for i := range len(s) + 1 {
			f := file("m", s[:i], s[i:])
			wantNoOpen(t, drive(9, f), api.ErrForm)
			wantNoOpen(t, with(drive(9, f), full...), api.ErrForm)
			wantNoOpen(t, with(drive(9, full...), f, m(3, 4)), api.ErrForm)
			wantNoOpen(t, off(drive(9, file("w3", "torn", ""), f)), api.ErrForm)
		}
	}
}

// TestP8_2OpenRun: runs that aren't there, that are torn or changed, whose pairs are no state's, each ahead of what is wrong with the log.
func TestP8_2OpenRun(t *testing.T) {
	good := runText(bothAB)
	odd := []string{"", "odd", good + "!", good + good, log(putA), sealed("0;1;"), sealed("1;1;a"), runOf(row("db", "1", "da", "2")), runOf(row("da", "1", "da", "1"))}
	for i := range good {
		odd = append(odd, good[:i], good[i+1:], good[:i]+"?"+good[i+1:])
	}
	for _, l := range [][]api.Pair{row("", ""), row("a", "1"), row("d", "1", "e", "2"), row("T", "c"), row("tt", ""), row("tt", "C"), row("tt", "cc"), row("tt", "x"), row("da", "1", "tt", "?"), row("c", "1", "da", "1"), row("tt", "c", "u", "c"), row("tt", "c", "tu", "d")} {
		odd = append(odd, runOf(l))
	}
	for _, s := range odd {
		for _, seg := range []string{"", log(putB), "torn", sealed("odd")} {
			d := drive(0, m(3, 4), file("w3", seg, ""), file("r3", good, ""), file("r5", good, ""), file("n.r4", good, ""))
			wantNoOpen(t, d, api.ErrForm)
			wantNoOpen(t, off(d), api.ErrForm)
			wantNoOpen(t, with(d, file("r4", s, ""), file("r4", good, "")), api.ErrForm)
			wantNoOpen(t, with(d, file("r4", s[:len(s)/2], s[len(s)/2:])), api.ErrForm)
		}
	}
	for _, l := range [][]api.Pair{nil, row("d", ""), row("d", "1", "t", "g"), row("d"+text(65535), "1"), row("da", text(65536)), row("tt", "g")} {
		d := drive(0, m(3, 4), file("r4", runOf(l), ""))
		s, _ := batch.Back(l)
		wantOpen(t, d, store(d, 3, 3, 4, s), api.OK)
	}
}

// mayNot are texts that are the bytes of no batch that may be.
func mayNot() []string {
	l := []string{"", "odd", rec(putA) + "!", rec(putA) + rec(putB), "0" + rec(putA), rec(api.Batch{Token: "t"}), rec(api.Batch{Kind: 3, Token: "t"}), rec(does("")), rec(giveUp(text(17))), rec(api.Batch{Kind: 2, Token: "t", Writes: putA.Writes})}
	l = append(l, rec(does("t", put("", "1"))), rec(does("t", put(text(33), "1"))), rec(does("t", put("a", text(65)))), rec(does("t", put("b", "1"), put("a", "1"))), rec(does("t", put("a", "1"), put("a", "1"))), rec(does("t", api.Write{Key: "a", Val: "1", Del: true})))
	for i := range rec(putA) {
		l = append(l, rec(putA)[:i], rec(putA)[i+1:])
	}
	many := does("t")
	for i := range 25 {
		many.Writes = append(many.Writes, put(fmt.Sprintf("%02d", i), ""))
	}
	return append(l, rec(many))
}

// TestP8_2OpenRecords: records that are no batch's, or of one that may not be, in any place of a log.
func TestP8_2OpenRecords(t *testing.T) {
	for _, s := range mayNot() {
		for _, seg := range []string{sealed(s), log(putA) + sealed(s), sealed(s) + log(putA), log(putA) + sealed(s, s) + log(putA), sealed(s) + "torn"} {
			wantNoOpen(t, drive(500, file("w1", seg, "")), api.ErrForm)
			wantNoOpen(t, drive(500, file("w1", log(putB), ""), file("w2", seg, "")), api.ErrForm)
			wantNoOpen(t, drive(500, file("w1", seg, ""), file("w2", log(putB), "")), api.ErrForm)
			wantNoOpen(t, drive(500, file("w1", seg, ""), file("w2", log(putB), ""), file("r1", runText(onlyA), ""), m(1, 1)), api.ErrForm)
			behind := drive(500, file("w1", seg, ""), file("w3", "", ""), m(3, 0), file("w5", seg, ""))
			wantOpen(t, behind, store(behind, 3, 3, 0, api.State{}), api.OK)
		}
		cut := drive(500, file("w1", log(putA)+"torn"+sealed(s), ""), file("w2", sealed(s), ""))
		after := drive(504+2*len(sealed(s)), file("w1", log(putA), ""))
		wantOpen(t, cut, store(after, 1, 1, 0, onlyA), api.OK)
	}
}

// TestP8_2OpenTorn: a log whose last segment is torn, at each of its bytes, is cut; one that is torn ahead of that loses what stands behind.
func TestP8_2OpenTorn(t *testing.T) {
	s, first := log(putB, dropA, giveW), log(putA)
	states := []api.State{onlyA, bothAB, state(row("b", "2", "c", ""), row("t", "c", "u", "c", "v", "c")), allOf}
	ends := []int{0, len(log(putB)), len(log(putB, dropA)), len(s)}
	run, rest := file("r4", runText(onlyA), ""), file("x", "y", "")
	for n := range len(s) + 1 {
		k := 0
		for k < 3 && ends[k+1] <= n {
			k++
		}
		end := ends[k]
		w2, w3 := file("w2", s[:n], ""), file("w3", log(putA), "")
		cut := file("w2", s[:end], "")
		for _, room := range []int{end, end + 1, 900} {
			if n == end {
				d := drive(room, file("w1", first, ""), w2, rest)
				wantOpen(t, d, store(d, 1, 2, 0, states[k]), api.OK)
				continue
			}
			wantOpen(t, drive(room, file("w1", first, ""), w2, rest), store(drive(room+n-end, file("w1", first, ""), rest, cut), 1, 2, 0, states[k]), api.OK)
			wantOpen(t, drive(room, w2, m(2, 4), run, rest), store(drive(room+n-end, m(2, 4), run, rest, cut), 2, 2, 4, states[k]), api.OK)
			wantOpen(t, drive(room, m(2, 4), w3, file("w.new", "stale", "!"), run, w2), store(drive(room+n-end+len(log(putA))+6, m(2, 4), run, cut), 2, 2, 4, states[k]), api.OK)
			wantOpen(t, armed(drive(room, w2, m(2, 4), run, rest), end+1), store(armed(drive(room+n-end, m(2, 4), run, rest, cut), 0), 2, 2, 4, states[k]), api.OK)
		}
	}
}

// TestP8_2OpenRecover: a log that can't be recovered: no room, no place for a file, a file that is too great, no power; its error comes ahead of a record's.
func TestP8_2OpenRecover(t *testing.T) {
	for _, whole := range []string{log(putA), sealed("odd"), log(putA) + sealed("odd")} {
		n := len(whole)
		d := drive(n, file("w1", whole+"torn", ""), file("x", "y", "z"))
		for room := range n {
			short := d
			short.Room = room
			wantNoOpen(t, short, api.ErrFull)
		}
		wantNoOpen(t, filled(d, 64), api.ErrFull)
		wantNoOpen(t, filled(d, 65), api.ErrFull)
		wantNoOpen(t, off(d), api.ErrDead)
		for fuse := range n + 1 {
			wantNoOpen(t, armed(d, fuse), api.ErrDead)
			wantNoOpen(t, armed(with(d, file("w2", "", ""), file("w.new", "", "")), fuse+2), api.ErrDead)
		}
	}
	many := ""
	for len(many) <= 65536 {
		many += log(putA)
	}
	wantNoOpen(t, drive(1<<20, file("w1", many+"torn", "")), api.ErrBig)
	wantNoOpen(t, drive(9, file("w1", "torn", ""), m(1, 4)), api.ErrForm)
	wantNoOpen(t, off(drive(9, file("w1", "torn", ""), file("m", "", ""))), api.ErrForm)
	last := with(filled(drive(900), 62), file("w1", log(putA)+"torn", ""))
	cut := last
	cut.Files = append(slices.Clone(last.Files[:62]), file("w1", log(putA), ""))
	cut.Room += 4
	wantOpen(t, last, store(cut, 1, 1, 0, onlyA), api.OK)
}

// lists are all rows of at most so many of some files, in any order.
func lists(most int, files ...api.File) [][]api.File {
	l := [][]api.File{nil}
	last := l
	for range most {
		var longer [][]api.File
		for _, some := range last {
			for _, f := range files {
				longer = append(longer, append(slices.Clone(some), f))
			}
		}
		l, last = append(l, longer...), longer
	}
	return l
}

// TestP8_2Told: every answer is the told one, of all short rows of files, two of one name too, with room and without, with power and without.
func TestP8_2Told(t *testing.T) {
	all := lists(4,
		m(1, 0), m(1, 2), m(2, 1), m(2, 0), file("m", "odd", ""),
		file("w1", log(putA), ""), file("w1", log(putA)+"torn", ""), file("w1", sealed("odd"), ""), file("w2", log(putB)[:20], ""), file("w2", "", log(putA, dropA)), file("w.new", "new", ""),
		file("r1", runText(onlyA), ""), file("r2", runText(allOf)[:40], runText(allOf)[40:]), file("r1", runOf(row("x", "")), ""))
	n := map[api.Errno]int{}
	for _, l := range all {
		for i, d := range []api.Disk{drive(900, l...), drive(9, l...), armed(drive(900, l...), 1), off(drive(900, l...))} {
			if len(l) == 4 && i > 0 {
				break
			}
			after, e := toldOpen(d)
			if len(l) < 4 {
				wantOpen(t, d, after, e)
			} else if got, e1 := Open(d); !alike(got, after) || e1 != e {
				t.Errorf("%s:\n%s, %d; want\n%s, %d", showDisk(d), show(got), e1, show(after), e)
			}
			n[e]++
		}
		if t.Failed() {
			return
		}
	}
	if len(n) != 4 {
		t.Errorf("%v", n)
	}
}
