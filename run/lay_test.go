package run

import (
	"fmt"
	"math"
	"slices"
	"strings"
	"testing"

	"stanchion/api"
	"stanchion/disk"
)

// toldLay does the steps of a laying, one by one; which are to be done, is told by the disk that was handed in.
func toldLay(d api.Disk, name, s string) (api.Disk, api.Errno) {
	var steps []func(api.Disk) (api.Disk, api.Errno)
	if _, is := disk.Find(d, "n."+name); is {
		steps = append(steps, func(d api.Disk) (api.Disk, api.Errno) { return disk.Delete(d, "n."+name) })
	}
	steps = append(steps,
		func(d api.Disk) (api.Disk, api.Errno) { return disk.Append(d, "n."+name, s) },
		func(d api.Disk) (api.Disk, api.Errno) { return disk.Sync(d, "n."+name) },
		func(d api.Disk) (api.Disk, api.Errno) { return disk.Rename(d, "n."+name, name) })
	for _, f := range steps {
		var e api.Errno
		if d, e = f(d); e != api.OK {
			return d, e
		}
	}
	return d, api.OK
}

// wantLay: a laying's answer; that nothing that is handed in is written into, the spare room of its list neither, and that what comes out has memory of its own.
func wantLay(t *testing.T, d api.Disk, name, s string, after api.Disk, e api.Errno) {
	t.Helper()
	spare := file("spare", "room", "!")
	in := d
	in.Files = roomy(d.Files, spare)
	what := fmt.Sprintf("Lay of %q, %.40q (%d bytes), on %s", name, s, len(s), show(d))
	for range 2 {
		got, e1 := Lay(in, name, s)
		if !disk.Same(got, after) || e1 != e {
			t.Errorf("%s:\n%s, %d; want\n%s, %d", what, show(got), e1, show(after), e)
		}
		spoil(got.Files, file("other", "other", "other"))
		wantUntouched(t, in.Files, d.Files, spare, what)
	}
}

// wantToldLay: a laying's answer is the told one.
func wantToldLay(t *testing.T, d api.Disk, name, s string) {
	t.Helper()
	after, e := toldLay(d, name, s)
	wantLay(t, d, name, s, after, e)
}

// TestP6_2Lay: a file that isn't there, and one that is; its fresh one there and not, whatever waits of it; others stay as they are.
func TestP6_2Lay(t *testing.T) {
	x, y := file("x", "ab", "cd"), file("n.x", "ef", "gh")
	for _, s := range []string{"", "a", "new", text(300), "\x00\xff"} {
		n := len(s)
		r := file("r", s, "")
		for _, more := range []int{0, 1, 700} {
			room := n + more
			wantLay(t, drive(room), "r", s, drive(more, r), api.OK)
			wantLay(t, drive(room, x, y), "r", s, drive(more, x, y, r), api.OK)
			wantLay(t, drive(room, file("r", "ol", "d"), x), "r", s, drive(more+3, x, r), api.OK)
			wantLay(t, drive(room, x, file("r", "", "")), "r", s, drive(more, x, r), api.OK)
			wantLay(t, drive(room, file("n.r", "st", "ale"), x), "r", s, drive(more+5, x, r), api.OK)
			wantLay(t, drive(room, y, file("n.r", "", "stale"), x, file("r", "old", ""), file("z", "", "")), "r", s, drive(more+8, y, x, file("z", "", ""), r), api.OK)
			wantLay(t, drive(room, file("r", "old", "er"), file("n.r", "", "")), "r", s, drive(more+5, r), api.OK)
		}
		wantLay(t, drive(n), "x", s, drive(0, file("x", s, "")), api.OK)
	}
	d := drive(0, file("r", "old", ""), file("n.r", "stale", "")) // the stale one goes first, and leaves its room
	wantLay(t, d, "r", "fresh", drive(3, file("r", "fresh", "")), api.OK)
	wantLay(t, d, "r", "fresh!", drive(5, file("r", "old", "")), api.ErrFull)
}

// TestP6_2LayNames: names whose fresh one is too long, that are too short or too long themselves, that are another's fresh one, or look like one.
func TestP6_2LayNames(t *testing.T) {
	for n := range 20 {
		name := text(n)
		d := drive(9, file("a", "1", "2"))
		switch {
		case n == 0: // n. is a file's name, the empty text isn't
			wantLay(t, d, name, "s", drive(8, file("a", "1", "2"), file("n.", "s", "")), api.ErrArg)
		case n == 1:
			wantLay(t, d, name, "s", drive(10, file("a", "s", "")), api.OK)
		case n <= 14:
			wantLay(t, d, name, "s", drive(8, file("a", "1", "2"), file(name, "s", "")), api.OK)
		default:
			wantLay(t, d, name, "s", d, api.ErrArg)
			wantLay(t, off(d), name, "s", off(d), api.ErrDead)
			long := drive(9, file(name, "old", ""), file("n."+name, "12", "3")) // such a disk may be handed in
			wantLay(t, long, name, "s", drive(12, file(name, "old", "")), api.ErrArg)
			wantLay(t, armed(long, 0), name, "s", off(armed(long, 0)), api.ErrDead)
			wantLay(t, armed(long, 1), name, "s", armed(drive(12, file(name, "old", "")), 0), api.ErrArg)
		}
	}
	a, b, c := file("r", "a", ""), file("n.r", "bb", ""), file("n.n.r", "ccc", "")
	d := drive(10, a, b, c)
	wantLay(t, d, "r", "new", drive(10, c, file("r", "new", "")), api.OK)
	wantLay(t, d, "n.r", "new", drive(12, a, file("n.r", "new", "")), api.OK)
	wantLay(t, d, "n.n.r", "new", drive(10, a, b, file("n.n.r", "new", "")), api.OK)
	dot := drive(10, file("n.", "a", ""), file("n.n.", "bb", ""), file("", "ccc", ""))
	wantLay(t, dot, "n.", "new", drive(10, file("", "ccc", ""), file("n.", "new", "")), api.OK)
	wantLay(t, dot, "", "new", drive(8, file("n.n.", "bb", ""), file("", "ccc", ""), file("n.", "new", "")), api.ErrArg)
	wantLay(t, dot, "n", "new", drive(7, append(slices.Clone(dot.Files), file("n", "new", ""))...), api.OK)
	wantLay(t, drive(9), "\xff;\x00", "s", drive(8, file("\xff;\x00", "s", "")), api.OK)
	twice := drive(10, file("n.r", "1", ""), file("n.r", "22", "3"), file("r", "44", ""), file("r", "5", "")) // the file of a name is the first one of it
	wantLay(t, twice, "r", "new", drive(10, file("r", "223new", ""), file("r", "5", "")), api.OK)
}

// TestP6_2LayRoom: no room, or room for a part; too many files; a file that is too long.
func TestP6_2LayRoom(t *testing.T) {
	old, stale := file("r", "old", ""), file("n.r", "xy", "z")
	for _, s := range []string{"a", "new", text(40)} {
		for room := range len(s) {
			wantLay(t, drive(room), "r", s, drive(room), api.ErrFull)
			wantLay(t, drive(room, old), "r", s, drive(room, old), api.ErrFull) // the old one leaves its room behind all only
			if room+3 < len(s) {
				wantLay(t, drive(room, old, stale), "r", s, drive(room+3, old), api.ErrFull)
			} else {
				wantLay(t, drive(room, old, stale), "r", s, drive(room+6-len(s), file("r", s, "")), api.OK)
			}
		}
	}
	for _, s := range []string{"", "new"} {
		wantLay(t, filled(drive(9), 64), "r", s, filled(drive(9), 64), api.ErrFull)
		wantLay(t, filled(drive(9, old), 64), "r", s, filled(drive(9, old), 64), api.ErrFull)
		wantLay(t, filled(drive(9), 63), "r", s, drive(9-len(s), append(filled(drive(9), 63).Files, file("r", s, ""))...), api.OK)
		wantLay(t, filled(drive(9, stale), 64), "r", s, drive(12-len(s), append(filled(drive(9, stale), 64).Files[1:], file("r", s, ""))...), api.OK)
	}
	great := text(65536)
	wantLay(t, drive(65536, old), "r", great, drive(3, file("r", great, "")), api.OK)
	for _, more := range []int{65537, 65538, 70000} {
		wantLay(t, drive(more, old), "r", text(more), drive(more, old), api.ErrBig)
		wantLay(t, drive(more, stale, old), "r", text(more), drive(more+3, old), api.ErrBig)
		wantLay(t, drive(more-1, old), "r", text(more), drive(more-1, old), api.ErrFull)
		wantLay(t, drive(more, old), text(15), text(more), drive(more, old), api.ErrArg)
	}
	wantLay(t, api.Disk{}, "r", "", off(api.Disk{Files: []api.File{file("n.r", "", "")}}), api.ErrDead) // its Fuse is 0
	wantLay(t, drive(math.MaxInt, old), "r", "new", drive(math.MaxInt, file("r", "new", "")), api.OK)
	wantLay(t, drive(-1, old), "r", "", drive(-1, old), api.ErrFull)
}

// TestP6_2LayFuse: a fuse that ends at each byte and each step of a laying; a disk without power.
func TestP6_2LayFuse(t *testing.T) {
	x, old, stale := file("x", "y", "z"), file("r", "ol", "d"), file("n.r", "xy", "z")
	for _, s := range []string{"", "a", text(20)} {
		n := len(s)
		with, without := drive(50, stale, x, old), drive(50, x, old)
		wantLay(t, off(with), "r", s, off(with), api.ErrDead)
		wantLay(t, off(without), "r", s, off(without), api.ErrDead)
		wantLay(t, armed(with, 0), "r", s, off(armed(with, 0)), api.ErrDead) // the Delete needs one
		for fuse := range n {
			wantLay(t, armed(without, fuse), "r", s, off(armed(drive(50-fuse, x, old, file("n.r", "", s[:fuse])), 0)), api.ErrDead)
			wantLay(t, armed(with, fuse+1), "r", s, off(armed(drive(53-fuse, x, old, file("n.r", "", s[:fuse])), 0)), api.ErrDead)
		}
		wantLay(t, armed(without, n), "r", s, off(armed(drive(50-n, x, old, file("n.r", s, "")), 0)), api.ErrDead) // the Sync needs none, the Rename does
		wantLay(t, armed(with, n+1), "r", s, off(armed(drive(53-n, x, old, file("n.r", s, "")), 0)), api.ErrDead)
		for more := range 3 {
			wantLay(t, armed(without, n+1+more), "r", s, armed(drive(53-n, x, file("r", s, "")), more), api.OK)
			wantLay(t, armed(with, n+2+more), "r", s, armed(drive(56-n, x, file("r", s, "")), more), api.OK)
		}
	}
}

// lists are rows of files: r, its fresh one, that one's, another one, also two of one name.
func lists() [][]api.File {
	files := []api.File{file("r", "old", ""), file("r", "o", "ld"), file("n.r", "", "stale"), file("n.r", "st", ""), file("n.n.r", "", ""), file("x", "a", "b"), file("n.", "p", "q"), file("", "m", "")}
	l := [][]api.File{nil}
	last := l
	for range 3 {
		var longer [][]api.File
		for _, some := range last {
			for _, f := range files {
				longer = append(longer, append(slices.Clone(some), f))
			}
		}
		l, last = append(l, longer...), longer
	}
	return l
}

// TestP6_2Told: every answer is the told one, for all small disks with numbers at and about the edges.
func TestP6_2Told(t *testing.T) {
	for _, l := range lists() {
		for _, name := range []string{"r", "n.r", "", "n.", strings.Repeat("r", 15)} {
			for _, s := range []string{"", "new"} {
				for _, room := range []int{-1, 0, 2, 3, 9} {
					for fuse := -2; fuse < 7; fuse++ {
						wantToldLay(t, api.Disk{Files: l, Room: room, Fuse: fuse}, name, s)
					}
				}
				wantToldLay(t, off(drive(9, l...)), name, s)
			}
		}
		if t.Failed() {
			return
		}
	}
}

// wantLoad: what Load tells of a file; the row is the caller's own, the disk stays as it is.
func wantLoad(t *testing.T, d api.Disk, name string, l []api.Pair, e api.Errno) {
	t.Helper()
	spare := file(name, "spare", "room")
	in := d
	in.Files = roomy(d.Files, spare)
	for range 2 {
		got, e1 := Load(in, name)
		if !slices.Equal(got, l) || e1 != e {
			t.Errorf("%q of %s: %.60q, %d; want %.60q, %d", name, show(d), got, e1, l, e)
		}
		spoil(got, api.Pair{Key: "other", Val: "other"})
		wantUntouched(t, in.Files, d.Files, spare, "Load")
	}
}

// TestP6_2Load: a file of a row, safe or waiting or a part of each; none; one that isn't a row's; the first one of a name; a disk without power.
func TestP6_2Load(t *testing.T) {
	for _, l := range rows() {
		s := told(len(l), l)
		for _, safe := range []int{0, 1, len(s) / 2, len(s) - 1, len(s)} {
			d := drive(0, file("x", "y", "z"), file("r", s[:safe], s[safe:]), file("r", "odd", ""))
			for _, d := range []api.Disk{d, off(d), armed(d, 0)} {
				wantLoad(t, d, "r", l, api.OK)
				wantLoad(t, d, "x", nil, api.ErrForm)
				wantLoad(t, d, "n.r", nil, api.ErrNone)
				wantLoad(t, d, "", nil, api.ErrNone)
				wantLoad(t, d, text(17), nil, api.ErrNone)
			}
		}
		wantLoad(t, drive(0, file("r", s[:len(s)-1], "")), "r", nil, api.ErrForm)
		wantLoad(t, drive(0, file("r", s, "!")), "r", nil, api.ErrForm)
		wantLoad(t, drive(0, file("r", s[1:], "")), "r", nil, api.ErrForm)
		wantLoad(t, drive(0, file("r", "odd", ""), file("r", s, "")), "r", nil, api.ErrForm)
		wantLoad(t, drive(0, file("", s, "")), "", l, api.OK)
	}
	for _, l := range wrong() {
		wantLoad(t, drive(0, file("r", told(len(l), l), "")), "r", nil, api.ErrForm)
	}
	for _, d := range []api.Disk{{}, drive(9), off(drive(9)), drive(0, file("r1", "", "")), drive(0, file("n.r", "", "")), drive(0, file("R", "", ""))} {
		wantLoad(t, d, "r", nil, api.ErrNone)
	}
	wantLoad(t, drive(0, file("r", "", "")), "r", nil, api.ErrForm)
}

// TestP6_2LayLoad: rows that are laid are loaded, as far as a file has room for them.
func TestP6_2LayLoad(t *testing.T) {
	d := drive(1 << 30)
	for i, l := range rows() {
		s, _ := Bytes(l)
		name := fmt.Sprint("r", i)
		after, e := Lay(d, name, s)
		if len(s) > 65536 {
			wantLay(t, d, name, s, d, api.ErrBig)
			continue
		}
		if e != api.OK {
			t.Fatalf("%d of %d bytes", e, len(s))
		}
		d = disk.Crash(after, nil)
		wantLoad(t, d, name, l, api.OK)
	}
}
