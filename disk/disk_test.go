package disk

import (
	"fmt"
	"math"
	"math/rand"
	"slices"
	"strings"
	"testing"

	"stanchion/api"
)

// text is one of n bytes that aren't all alike, so that a wrong piece of it shows.
func text(n int) string {
	b := make([]byte, n)
	for i := range b {
		b[i] = byte('a' + (i+i/26)%26)
	}
	return string(b)
}

// file is one of three texts.
func file(name, safe, wait string) api.File {
	return api.File{Name: name, Safe: safe, Wait: wait}
}

// disk is one with power, without a fuse.
func disk(room int, l ...api.File) api.Disk {
	return api.Disk{Files: l, Room: room, Fuse: -1}
}

// many are n files, each of 2 bytes, of which one waits.
func many(n int) []api.File {
	l := make([]api.File, n)
	for i := range l {
		l[i] = file(fmt.Sprint("f", i), "s", "w")
	}
	return l
}

// show tells a disk: bytes that are many by their number, too.
func show(d api.Disk) string {
	return fmt.Sprintf("{%.300q, Room %d, Fuse %d, Off %t, %d files}", d.Files, d.Room, d.Fuse, d.Off, len(d.Files))
}

// alike: are two disks the same, field by field? (It is asked where Same is not on trial.)
func alike(a, b api.Disk) bool {
	if len(a.Files) != len(b.Files) || a.Room != b.Room || a.Fuse != b.Fuse || a.Off != b.Off {
		return false
	}
	for i, f := range a.Files {
		if f != b.Files[i] {
			return false
		}
	}
	return true
}

// The kinds of steps.
const (
	toAppend = iota
	toSync
	toRename
	toDelete
	toCrash
	toArm
	kinds
)

// step is a call that makes a disk another one, and its arguments: a of the name, b of the text or of the second name.
type step struct {
	kind  int
	a, b  string
	keeps []int
	fuse  int
}

func (x step) String() string {
	name := [...]string{"Append", "Sync", "Rename", "Delete", "Crash", "Arm"}[x.kind]
	return fmt.Sprintf("%s(%.60q, %.60q (%d bytes), %v, %d)", name, x.a, x.b, len(x.b), x.keeps, x.fuse)
}

// do does a step.
func do(d api.Disk, x step) (api.Disk, api.Errno) {
	switch x.kind {
	case toAppend:
		return Append(d, x.a, x.b)
	case toSync:
		return Sync(d, x.a)
	case toRename:
		return Rename(d, x.a, x.b)
	case toDelete:
		return Delete(d, x.a)
	case toCrash:
		return Crash(d, x.keeps), api.OK
	}
	return Arm(d, x.fuse), api.OK
}

// round is a and b together, going round at 2^64.
func round(a, b int) int {
	return int(uint64(a) + uint64(b))
}

// first is the place of the first file of a name, or -1.
func first(d api.Disk, name string) int {
	for i := range d.Files {
		if d.Files[i].Name == name {
			return i
		}
	}
	return -1
}

// without is a new disk without the file at a place, of which the bytes are room again.
func without(d api.Disk, at int) api.Disk {
	var l []api.File
	for i, f := range d.Files {
		if i != at {
			l = append(l, f)
		}
	}
	d.Room = round(d.Room, len(d.Files[at].Safe+d.Files[at].Wait))
	d.Files = l
	return d
}

// with is a new disk with another file at a place.
func with(d api.Disk, at int, g api.File) api.Disk {
	var l []api.File
	for i, f := range d.Files {
		if i == at {
			f = g
		}
		l = append(l, f)
	}
	d.Files = l
	return d
}

// told is a step's answer, word by word as P3.1 to P3.4 tell it.
func told(d api.Disk, x step) (api.Disk, api.Errno) {
	switch {
	case x.kind == toCrash:
		return toldCrash(d, x.keeps), api.OK
	case x.kind == toArm:
		d.Fuse = x.fuse
		if x.fuse < 0 {
			d.Fuse = -1
		}
		return d, api.OK
	case d.Off:
		return d, api.ErrDead
	case x.kind == toAppend:
		return toldAppend(d, x.a, x.b)
	case x.kind == toRename && (len(x.b) < 1 || len(x.b) > 16):
		return d, api.ErrArg
	}
	at := first(d, x.a)
	switch {
	case at < 0:
		return d, api.ErrNone
	case x.kind == toSync:
		f := d.Files[at]
		return with(d, at, file(f.Name, f.Safe+f.Wait, "")), api.OK
	case x.kind == toRename && x.a == x.b:
		return d, api.OK
	case d.Fuse == 0:
		d.Off = true
		return d, api.ErrDead
	case d.Fuse > 0:
		d.Fuse = d.Fuse - 1
	}
	if x.kind == toDelete {
		return without(d, at), api.OK
	}
	if old := first(d, x.b); old >= 0 {
		d = without(d, old)
	}
	at = first(d, x.a)
	return with(d, at, file(x.b, d.Files[at].Safe, d.Files[at].Wait)), api.OK
}

// toldAppend is Append of a disk that is not Off, as P3.2 tells it.
func toldAppend(d api.Disk, name, s string) (api.Disk, api.Errno) {
	at := first(d, name)
	f := file(name, "", "")
	if at >= 0 {
		f = d.Files[at]
	}
	switch {
	case len(name) < 1 || len(name) > 16:
		return d, api.ErrArg
	case at < 0 && len(d.Files) >= 64 || len(s) > d.Room:
		return d, api.ErrFull
	case len(f.Safe+f.Wait+s) > 65536:
		return d, api.ErrBig
	}
	if at < 0 {
		at = len(d.Files)
		d.Files = append(slices.Clone(d.Files), f)
	}
	t := s
	if d.Fuse >= 0 && d.Fuse < len(s) {
		t = s[:d.Fuse]
	}
	d = with(d, at, file(name, f.Safe, f.Wait+t))
	d.Room = round(d.Room, -len(t))
	if d.Fuse >= 0 {
		d.Fuse = round(d.Fuse, -len(t))
	}
	if t != s {
		d.Off = true
		return d, api.ErrDead
	}
	return d, api.OK
}

// toldCrash is Crash as P3.4 tells it.
func toldCrash(d api.Disk, keeps []int) api.Disk {
	for i, f := range d.Files {
		n := 0
		if i < len(keeps) && keeps[i] > 0 {
			n = keeps[i]
		}
		if n > len(f.Wait) {
			n = len(f.Wait)
		}
		d = with(d, i, file(f.Name, f.Safe+f.Wait[:n], ""))
		d.Room = round(d.Room, len(f.Wait)-n)
	}
	d.Fuse, d.Off = -1, false
	return d
}

// wantStep: a step's answer; that nothing that is handed in is written into, the spare room of its lists neither, is seen on the way, and that what comes out has memory of its own.
func wantStep(t *testing.T, d api.Disk, x step, want api.Disk, e api.Errno) {
	t.Helper()
	spare := file("spare", "room", "!")
	in, keeps := d, x.keeps
	in.Files = append(append(make([]api.File, 0, len(d.Files)+3), d.Files...), spare, spare)[:len(d.Files)]
	x.keeps = append(append(make([]int, 0, len(keeps)+2), keeps...), 77)[:len(keeps)]
	got, e1 := do(in, x)
	if e1 != e || !alike(got, want) {
		t.Errorf("%v of %s:\n%s, %d; want\n%s, %d", x, show(d), show(got), e1, show(want), e)
	}
	for i := range got.Files {
		got.Files[i] = file("other", "other", "other")
	}
	if cap(got.Files) > len(got.Files) {
		got.Files = append(got.Files, file("more", "more", "more"))
	}
	if !alike(in, d) || in.Files[:len(d.Files)+2][len(d.Files)] != spare || in.Files[:len(d.Files)+2][len(d.Files)+1] != spare {
		t.Errorf("%v of %s wrote into what was handed in, or shares it", x, show(d))
	}
	if !slices.Equal(x.keeps, keeps) || x.keeps[:len(keeps)+1][len(keeps)] != 77 {
		t.Errorf("%v wrote into its keeps", x)
	}
}

// wantTold: a step's answer is the told one.
func wantTold(t *testing.T, d api.Disk, x step) {
	t.Helper()
	want, e := told(d, x)
	wantStep(t, d, x, want, e)
}

// wantKept: an error, and the disk that was handed in.
func wantKept(t *testing.T, d api.Disk, x step, e api.Errno) {
	t.Helper()
	wantStep(t, d, x, d, e)
}

// TestP3_1New: a room at 0, above and below; with the error the disk is the zero one.
func TestP3_1New(t *testing.T) {
	for _, room := range []int{0, 1, 10000, math.MaxInt} {
		if d, e := New(room); e != api.OK || !alike(d, disk(room)) {
			t.Errorf("New(%d): %s, %d", room, show(d), e)
		}
	}
	for _, room := range []int{-1, -2, math.MinInt32, math.MinInt} {
		if d, e := New(room); e != api.ErrArg || !alike(d, api.Disk{}) {
			t.Errorf("New(%d): %s, %d", room, show(d), e)
		}
	}
}

// TestP3_1Same: the same, and each of the fields, and each of a file's, another one.
func TestP3_1Same(t *testing.T) {
	base := func() api.Disk {
		return api.Disk{Files: []api.File{file("f", "ab", "c"), file("g", "", "")}, Room: 5, Fuse: 3, Off: true}
	}
	wantSame(t, base(), base(), true)
	wantSame(t, api.Disk{}, api.Disk{Files: []api.File{}}, true)
	wantSame(t, api.Disk{Files: make([]api.File, 0, 4)}, api.Disk{}, true)
	wantSame(t, disk(1), api.Disk{Room: 1, Fuse: -2}, false) // both have no fuse, and are told apart
	for i, change := range []func(*api.Disk){
		func(d *api.Disk) { d.Room++ }, func(d *api.Disk) { d.Room = -d.Room }, func(d *api.Disk) { d.Fuse++ }, func(d *api.Disk) { d.Fuse = -1 },
		func(d *api.Disk) { d.Off = false }, func(d *api.Disk) { d.Files = nil }, func(d *api.Disk) { d.Files = d.Files[:1] },
		func(d *api.Disk) { d.Files = append(d.Files, api.File{}) }, func(d *api.Disk) { d.Files = append(d.Files, d.Files[1]) },
		func(d *api.Disk) { slices.Reverse(d.Files) }, func(d *api.Disk) { d.Files[0].Name = "F" }, func(d *api.Disk) { d.Files[1].Name = "" },
		func(d *api.Disk) { d.Files[0].Safe = "aB" }, func(d *api.Disk) { d.Files[0].Wait = "C" }, func(d *api.Disk) { d.Files[1].Wait = "\x00" },
		func(d *api.Disk) { d.Files[0].Safe, d.Files[0].Wait = "abc", "" }, func(d *api.Disk) { d.Files[0].Safe, d.Files[0].Wait = "a", "bc" },
		func(d *api.Disk) { d.Files[0], d.Files[1] = file("f", "", ""), file("g", "ab", "c") },
	} {
		d := base()
		change(&d)
		if Same(base(), d) || Same(d, base()) || !Same(d, d) {
			t.Errorf("the change %d doesn't show: %s", i, show(d))
		}
	}
}

func wantSame(t *testing.T, a, b api.Disk, same bool) {
	t.Helper()
	if Same(a, b) != same || Same(b, a) != same {
		t.Errorf("Same(%s, %s): %t", show(a), show(b), !same)
	}
}

// TestP3_1Arm: fuses at 0, above and below, whatever the disk was armed with, or Off.
func TestP3_1Arm(t *testing.T) {
	for _, old := range []int{math.MinInt, -2, -1, 0, 1, math.MaxInt} {
		for _, off := range []bool{false, true} {
			d := api.Disk{Files: many(3), Room: -4, Fuse: old, Off: off}
			for _, fuse := range []int{0, 1, 2, 65536, math.MaxInt} {
				want := d
				want.Fuse = fuse
				wantStep(t, d, step{kind: toArm, fuse: fuse}, want, api.OK)
			}
			for _, fuse := range []int{-1, -2, math.MinInt32, math.MinInt} {
				want := d
				want.Fuse = -1
				wantStep(t, d, step{kind: toArm, fuse: fuse}, want, api.OK)
			}
		}
	}
}

// TestP3_1Find: files of any names, the first of two that have one, and none; on a disk without power, too.
func TestP3_1Find(t *testing.T) {
	long := text(17)
	d := disk(9, file("f", "ab", "cd"), file("g", "", ""), file("f", "other", "one"), file("", "no", "name"), file(long, "x", "y"))
	for _, off := range []bool{false, true} {
		d.Off, d.Fuse = off, 0
		wantFind(t, d, "f", file("f", "ab", "cd"), true)
		wantFind(t, d, "g", file("g", "", ""), true)
		wantFind(t, d, "", file("", "no", "name"), true)
		wantFind(t, d, long, file(long, "x", "y"), true)
		for _, name := range []string{"F", "ff", "f\x00", "h", long[:16], long + "!"} {
			wantFind(t, d, name, api.File{}, false)
		}
	}
	wantFind(t, api.Disk{}, "", api.File{}, false)
	wantFind(t, disk(3), "f", api.File{}, false)
}

func wantFind(t *testing.T, d api.Disk, name string, f api.File, there bool) {
	t.Helper()
	if f1, there1 := Find(d, name); f1 != f || there1 != there {
		t.Errorf("Find(%s, %q): %q, %t; want %q, %t", show(d), name, f1, there1, f, there)
	}
	e := api.OK
	if !there {
		e = api.ErrNone
	}
	if s, e1 := Read(d, name); s != f.Safe+f.Wait || e1 != e {
		t.Errorf("Read(%s, %q): %q, %d; want %q, %d", show(d), name, s, e1, f.Safe+f.Wait, e)
	}
}

// TestP3_1Read: what is safe, and what waits behind it.
func TestP3_1Read(t *testing.T) {
	d := disk(0, file("a", "ab", "cd"), file("b", "ab", ""), file("c", "", "cd"), file("d", "", ""), file("a", "x", "y"))
	for _, x := range []struct{ name, s string }{{"a", "abcd"}, {"b", "ab"}, {"c", "cd"}, {"d", ""}} {
		if s, e := Read(d, x.name); s != x.s || e != api.OK {
			t.Errorf("Read(%q): %q, %d; want %q", x.name, s, e, x.s)
		}
	}
	if s, e := Read(d, "e"); s != "" || e != api.ErrNone {
		t.Errorf("Read of none: %q, %d", s, e)
	}
}

// TestP3_2Append: to a file that is there, and to one that isn't, some bytes and none.
func TestP3_2Append(t *testing.T) {
	d := disk(10, file("f", "ab", "cd"), file("g", "", ""))
	wantStep(t, d, step{a: "f", b: "ef"}, disk(8, file("f", "ab", "cdef"), file("g", "", "")), api.OK)
	wantStep(t, d, step{a: "g", b: "\x00"}, disk(9, file("f", "ab", "cd"), file("g", "", "\x00")), api.OK)
	wantStep(t, d, step{a: "h", b: "xyz"}, disk(7, file("f", "ab", "cd"), file("g", "", ""), file("h", "", "xyz")), api.OK)
	wantStep(t, d, step{a: "h"}, disk(10, file("f", "ab", "cd"), file("g", "", ""), file("h", "", "")), api.OK)
	wantStep(t, d, step{a: "f"}, d, api.OK)
	wantStep(t, disk(3), step{a: "a", b: "abc"}, disk(0, file("a", "", "abc")), api.OK)
	twice := disk(4, file("g", "", ""), file("f", "1", ""), file("f", "2", ""))
	wantStep(t, twice, step{a: "f", b: "!"}, disk(3, file("g", "", ""), file("f", "1", "!"), file("f", "2", "")), api.OK)
}

// TestP3_2Name: names of 0, 1, 16 and 17 bytes, of any bytes, of files that are there and not.
func TestP3_2Name(t *testing.T) {
	for _, n := range []int{1, 2, 15, 16} {
		name := text(n)
		wantStep(t, disk(2), step{a: name, b: "x"}, disk(1, file(name, "", "x")), api.OK)
		name = strings.Repeat("\xff", n)
		wantStep(t, disk(2), step{a: name, b: "x"}, disk(1, file(name, "", "x")), api.OK)
	}
	for _, name := range []string{"", text(17), text(18), text(1000), strings.Repeat("ä", 9)} {
		wantKept(t, disk(2), step{a: name, b: "x"}, api.ErrArg)
		wantKept(t, disk(2), step{a: name}, api.ErrArg)
		wantKept(t, disk(2, file(name, "a", "b")), step{a: name, b: "x"}, api.ErrArg)
	}
}

// TestP3_2Files: 63 files, 64, and such above that were handed in.
func TestP3_2Files(t *testing.T) {
	for _, n := range []int{0, 1, 62, 63} {
		wantStep(t, disk(2, many(n)...), step{a: "new", b: "x"}, disk(1, append(many(n), file("new", "", "x"))...), api.OK)
	}
	for _, n := range []int{64, 65, 200} {
		d := disk(2, many(n)...)
		wantKept(t, d, step{a: "new", b: "x"}, api.ErrFull)
		wantKept(t, d, step{a: "new"}, api.ErrFull)
		last := fmt.Sprint("f", n-1)
		wantStep(t, d, step{a: last, b: "x"}, disk(1, append(many(n-1), file(last, "s", "wx"))...), api.OK)
	}
}

// TestP3_2Room: texts of as many bytes as there is room, of one less and one more; a room below 0 is too little for none.
func TestP3_2Room(t *testing.T) {
	for _, room := range []int{0, 1, 2, 300} {
		d := disk(room, file("f", "ab", "cd"))
		for _, name := range []string{"f", "g"} {
			if room > 0 {
				wantTold(t, d, step{a: name, b: text(room - 1)})
			}
			wantKept(t, d, step{a: name, b: text(room + 1)}, api.ErrFull)
		}
		wantStep(t, d, step{a: "f", b: text(room)}, disk(0, file("f", "ab", "cd"+text(room))), api.OK)
		wantStep(t, d, step{a: "g", b: text(room)}, disk(0, file("f", "ab", "cd"), file("g", "", text(room))), api.OK)
	}
	for _, room := range []int{-1, -2, math.MinInt} {
		wantKept(t, disk(room, file("f", "", "")), step{a: "f"}, api.ErrFull)
		wantKept(t, disk(room), step{a: "f", b: "a"}, api.ErrFull)
	}
	wantStep(t, disk(math.MaxInt), step{a: "f", b: "a"}, disk(math.MaxInt-1, file("f", "", "a")), api.OK)
}

// TestP3_2Big: files of 2^16 bytes, and of one more, safe and waiting ones together.
func TestP3_2Big(t *testing.T) {
	const room = 1 << 20
	for _, x := range []struct{ safe, wait, more int }{{0, 0, 65536}, {65535, 0, 1}, {0, 65535, 1}, {30000, 30000, 5536}, {1, 1, 65534}, {65536, 0, 0}, {1, 65535, 0}} {
		d := disk(room, file("f", text(x.safe), text(x.wait)))
		wantStep(t, d, step{a: "f", b: text(x.more)}, disk(room-x.more, file("f", text(x.safe), text(x.wait)+text(x.more))), api.OK)
		wantKept(t, d, step{a: "f", b: text(x.more + 1)}, api.ErrBig)
		d.Fuse = 0 // it is the whole text that counts
		wantKept(t, d, step{a: "f", b: text(x.more + 1)}, api.ErrBig)
	}
	wantStep(t, disk(room), step{a: "f", b: text(65536)}, disk(room-65536, file("f", "", text(65536))), api.OK)
	wantKept(t, disk(room), step{a: "f", b: text(65537)}, api.ErrBig)
	wantKept(t, disk(room, file("f", text(65536), text(65536))), step{a: "f"}, api.ErrBig)
	wantTold(t, disk(room, file("g", text(65536), "")), step{a: "f", b: text(65536)}) // another file's bytes don't count
}

// TestP3_2Fuse: fuses below 0, at 0, below the length of what is appended, at it and above.
func TestP3_2Fuse(t *testing.T) {
	f, g := file("f", "ab", "cd"), file("g", "", "")
	for _, fuse := range []int{math.MinInt, -2, -1} {
		d := api.Disk{Files: []api.File{f, g}, Room: 9, Fuse: fuse}
		wantStep(t, d, step{a: "f", b: "xyz"}, api.Disk{Files: []api.File{file("f", "ab", "cdxyz"), g}, Room: 6, Fuse: fuse}, api.OK)
		wantStep(t, d, step{a: "h"}, api.Disk{Files: []api.File{f, g, file("h", "", "")}, Room: 9, Fuse: fuse}, api.OK)
	}
	for fuse := range 3 {
		d := api.Disk{Files: []api.File{f, g}, Room: 9, Fuse: fuse}
		t1 := "xyz"[:fuse]
		wantStep(t, d, step{a: "f", b: "xyz"}, api.Disk{Files: []api.File{file("f", "ab", "cd"+t1), g}, Room: 9 - fuse, Off: true}, api.ErrDead)
		wantStep(t, d, step{a: "h", b: "xyz"}, api.Disk{Files: []api.File{f, g, file("h", "", t1)}, Room: 9 - fuse, Off: true}, api.ErrDead)
		wantStep(t, d, step{a: "f"}, d, api.OK)
		wantStep(t, d, step{a: "h"}, api.Disk{Files: []api.File{f, g, file("h", "", "")}, Room: 9, Fuse: fuse}, api.OK)
	}
	for _, fuse := range []int{3, 4, 5, math.MaxInt} {
		d := api.Disk{Files: []api.File{f, g}, Room: 3, Fuse: fuse}
		wantStep(t, d, step{a: "f", b: "xyz"}, api.Disk{Files: []api.File{file("f", "ab", "cdxyz"), g}, Fuse: fuse - 3}, api.OK)
		wantStep(t, d, step{a: "h", b: "xyz"}, api.Disk{Files: []api.File{f, g, file("h", "", "xyz")}, Fuse: fuse - 3}, api.OK)
	}
}

// TestP3_2Order: which of several errors is told.
func TestP3_2Order(t *testing.T) {
	l := append(many(64), file(text(17), text(65536), ""))
	d := api.Disk{Files: l, Room: 3, Off: true}
	for _, x := range []step{{a: "", b: text(65537)}, {a: text(17), b: text(4)}, {a: "new", b: text(65537)}, {a: "f0", b: "x"}, {a: "f0"}} {
		wantKept(t, d, x, api.ErrDead)
	}
	d.Off = false
	wantKept(t, d, step{a: "", b: text(65537)}, api.ErrArg)
	wantKept(t, d, step{a: text(17), b: text(65537)}, api.ErrArg)
	wantKept(t, d, step{a: text(17)}, api.ErrArg)
	wantKept(t, d, step{a: "new", b: text(65537)}, api.ErrFull)
	wantKept(t, d, step{a: "f0", b: text(65537)}, api.ErrFull)
	d.Room = 65537
	wantKept(t, d, step{a: "new", b: text(65537)}, api.ErrFull)
	wantKept(t, d, step{a: "f0", b: text(65537)}, api.ErrBig)
	wantTold(t, d, step{a: "f0", b: "x"}) // the fuse's ErrDead is the last one
}

// TestP3_3Sync: what waits is safe; the fuse doesn't count.
func TestP3_3Sync(t *testing.T) {
	for _, fuse := range []int{-7, -1, 0, 1, 100} {
		d := api.Disk{Files: []api.File{file("e", "1", "2"), file("f", "ab", "cd"), file("f", "x", "y"), file("g", "", "z"), file("", "p", "q")}, Room: -3, Fuse: fuse}
		for _, x := range []struct {
			at   int
			name string
			safe string
		}{{0, "e", "12"}, {1, "f", "abcd"}, {3, "g", "z"}, {4, "", "pq"}} {
			want := with(d, x.at, file(x.name, x.safe, ""))
			wantStep(t, d, step{kind: toSync, a: x.name}, want, api.OK)
			wantStep(t, want, step{kind: toSync, a: x.name}, want, api.OK)
		}
		for _, name := range []string{"h", "ff", text(17)} {
			wantKept(t, d, step{kind: toSync, a: name}, api.ErrNone)
			d.Off = true
			wantKept(t, d, step{kind: toSync, a: name}, api.ErrDead)
			wantKept(t, d, step{kind: toSync, a: "f"}, api.ErrDead)
			d.Off = false
		}
	}
	wantKept(t, disk(1), step{kind: toSync, a: ""}, api.ErrNone)
}

// TestP3_3Rename: to a name that isn't there, to one that is, ahead of the file and behind it, to the same one; the file stays in its place.
func TestP3_3Rename(t *testing.T) {
	e, f, g, h := file("e", "1", "2"), file("f", "ab", "cd"), file("g", "", "z"), file("h", "xyz", "")
	d := disk(5, e, f, g, h)
	wantStep(t, d, step{kind: toRename, a: "f", b: "new"}, disk(5, e, file("new", "ab", "cd"), g, h), api.OK)
	wantStep(t, d, step{kind: toRename, a: "f", b: "h"}, disk(8, e, file("h", "ab", "cd"), g), api.OK)
	wantStep(t, d, step{kind: toRename, a: "h", b: "f"}, disk(9, e, g, file("f", "xyz", "")), api.OK)
	wantStep(t, d, step{kind: toRename, a: "e", b: "g"}, disk(6, file("g", "1", "2"), f, h), api.OK)
	wantStep(t, d, step{kind: toRename, a: "g", b: "f"}, disk(9, e, file("f", "", "z"), h), api.OK)
	for _, fuse := range []int{-5, -1, 0, 1} {
		d.Fuse = fuse
		wantStep(t, d, step{kind: toRename, a: "f", b: "f"}, d, api.OK)
	}
	for _, n := range []int{1, 16} {
		wantStep(t, disk(5, e, f), step{kind: toRename, a: "e", b: text(n)}, disk(5, file(text(n), "1", "2"), f), api.OK)
	}
	odd := disk(0, file("", "a", "b"), file(text(17), "c", "d"))
	wantStep(t, odd, step{kind: toRename, a: "", b: "x"}, disk(0, file("x", "a", "b"), file(text(17), "c", "d")), api.OK)
	wantStep(t, odd, step{kind: toRename, a: text(17), b: "x"}, disk(0, file("", "a", "b"), file("x", "c", "d")), api.OK)
}

// TestP3_3RenameTwice: of two files of one name the first one counts, as the one that is renamed and as the one that goes.
func TestP3_3RenameTwice(t *testing.T) {
	f1, f2, g1, g2 := file("f", "1", ""), file("f", "22", ""), file("g", "333", ""), file("g", "4444", "")
	d := disk(0, f1, g1, f2, g2)
	wantStep(t, d, step{kind: toRename, a: "f", b: "g"}, disk(3, file("g", "1", ""), f2, g2), api.OK)
	wantStep(t, d, step{kind: toRename, a: "g", b: "f"}, disk(1, file("f", "333", ""), f2, g2), api.OK)
	wantStep(t, d, step{kind: toRename, a: "f", b: "h"}, disk(0, file("h", "1", ""), g1, f2, g2), api.OK)
	wantStep(t, d, step{kind: toRename, a: "f", b: "f"}, d, api.OK)
}

// TestP3_3RenameOrder: which of several errors is told.
func TestP3_3RenameOrder(t *testing.T) {
	for _, fuse := range []int{-1, 0, 3} {
		d := api.Disk{Files: []api.File{file("f", "ab", "cd"), file("", "x", ""), file(text(17), "y", "")}, Room: 2, Fuse: fuse}
		for _, to := range []string{"", text(17), text(99), strings.Repeat("ä", 9)} {
			wantKept(t, d, step{kind: toRename, a: "f", b: to}, api.ErrArg)
			wantKept(t, d, step{kind: toRename, a: "none", b: to}, api.ErrArg)
			wantKept(t, d, step{kind: toRename, a: to, b: to}, api.ErrArg)
		}
		for _, to := range []string{"f", "g", "none", text(16)} {
			wantKept(t, d, step{kind: toRename, a: "none", b: to}, api.ErrNone)
		}
		d.Off = true
		for _, to := range []string{"", "f", "g", "none", text(17)} {
			for _, from := range []string{"f", "", "none"} {
				wantKept(t, d, step{kind: toRename, a: from, b: to}, api.ErrDead)
			}
		}
	}
}

// TestP3_3Delete: files at each place, the first one of two; names that have no file.
func TestP3_3Delete(t *testing.T) {
	e, f, g, f2 := file("e", "1", "2"), file("f", "ab", "cde"), file("", "", "z"), file("f", "x", "")
	d := disk(5, e, f, g, f2)
	wantStep(t, d, step{kind: toDelete, a: "e"}, disk(7, f, g, f2), api.OK)
	wantStep(t, d, step{kind: toDelete, a: "f"}, disk(10, e, g, f2), api.OK)
	wantStep(t, d, step{kind: toDelete, a: ""}, disk(6, e, f, f2), api.OK)
	wantStep(t, disk(10, e, g, f2), step{kind: toDelete, a: "f"}, disk(11, e, g), api.OK)
	wantStep(t, disk(1, e), step{kind: toDelete, a: "e"}, disk(3), api.OK)
	for _, fuse := range []int{-1, 0, 3} {
		d.Fuse = fuse
		for _, name := range []string{"h", "E", text(17)} {
			d.Off = false
			wantKept(t, d, step{kind: toDelete, a: name}, api.ErrNone)
			d.Off = true
			wantKept(t, d, step{kind: toDelete, a: name}, api.ErrDead)
			wantKept(t, d, step{kind: toDelete, a: "f"}, api.ErrDead)
		}
	}
	wantKept(t, disk(5), step{kind: toDelete, a: ""}, api.ErrNone)
}

// TestP3_3Change: a change with the fuse at 0, above and below.
func TestP3_3Change(t *testing.T) {
	f, g := file("f", "ab", "cd"), file("g", "x", "")
	changes := []step{{kind: toDelete, a: "f"}, {kind: toRename, a: "f", b: "g"}, {kind: toRename, a: "f", b: "h"}}
	after := []api.Disk{disk(9, g), disk(6, file("g", "ab", "cd")), disk(5, file("h", "ab", "cd"), g)}
	for i, x := range changes {
		d := api.Disk{Files: []api.File{f, g}, Room: 5}
		off := d
		off.Off = true
		wantStep(t, d, x, off, api.ErrDead)
		wantStep(t, off, x, off, api.ErrDead)
		for _, fuse := range []int{1, 2, 65536, math.MaxInt} {
			d.Fuse, after[i].Fuse = fuse, fuse-1
			wantStep(t, d, x, after[i], api.OK)
		}
		for _, fuse := range []int{-1, -2, math.MinInt} {
			d.Fuse, after[i].Fuse = fuse, fuse
			wantStep(t, d, x, after[i], api.OK)
		}
	}
}

// TestP3_4Crash: keeps below 0, of none, some, all and more than waits; fewer keeps than files, and more.
func TestP3_4Crash(t *testing.T) {
	l := []api.File{file("f", "ab", "cde"), file("g", "", "xy"), file("h", "z", ""), file("f", "", "1")}
	for _, x := range []struct {
		keeps []int
		room  int
		safe  [4]string
	}{
		{nil, 6, [4]string{"ab", "", "z", ""}},
		{[]int{}, 6, [4]string{"ab", "", "z", ""}},
		{[]int{0, 0, 0, 0}, 6, [4]string{"ab", "", "z", ""}},
		{[]int{-1, math.MinInt, -3, -1}, 6, [4]string{"ab", "", "z", ""}},
		{[]int{1}, 5, [4]string{"abc", "", "z", ""}},
		{[]int{2, 1}, 3, [4]string{"abcd", "x", "z", ""}},
		{[]int{3, 2, 0, 1}, 0, [4]string{"abcde", "xy", "z", "1"}},
		{[]int{4, 3, 1, 2}, 0, [4]string{"abcde", "xy", "z", "1"}},
		{[]int{math.MaxInt, math.MaxInt, math.MaxInt, math.MaxInt}, 0, [4]string{"abcde", "xy", "z", "1"}},
		{[]int{-1, 1, math.MaxInt, 0, 7, -7, math.MaxInt}, 5, [4]string{"ab", "x", "z", ""}},
		{[]int{0, 0, 0, 1}, 5, [4]string{"ab", "", "z", "1"}},
	} {
		for _, fuse := range []int{math.MinInt, -2, -1, 0, 1, 100} {
			for _, off := range []bool{false, true} {
				want := disk(10+x.room, file("f", x.safe[0], ""), file("g", x.safe[1], ""), file("h", x.safe[2], ""), file("f", x.safe[3], ""))
				wantStep(t, api.Disk{Files: l, Room: 10, Fuse: fuse, Off: off}, step{kind: toCrash, keeps: x.keeps}, want, api.OK)
			}
		}
	}
	wantStep(t, api.Disk{Room: -3, Off: true}, step{kind: toCrash, keeps: []int{1, 2}}, disk(-3), api.OK)
	wantTold(t, api.Disk{Files: many(200), Room: 3}, step{kind: toCrash, keeps: make([]int, 100)})
}

// TestP3_4Round: a room that is kept goes round at 2^64.
func TestP3_4Round(t *testing.T) {
	l := []api.File{file("f", "ab", "cde"), file("g", "", "xy")}
	d := disk(math.MaxInt, l...)
	wantStep(t, d, step{kind: toCrash}, disk(math.MinInt+4, file("f", "ab", ""), file("g", "", "")), api.OK)
	wantStep(t, d, step{kind: toDelete, a: "f"}, disk(math.MinInt+4, l[1]), api.OK)
	wantStep(t, d, step{kind: toRename, a: "g", b: "f"}, disk(math.MinInt+4, file("f", "", "xy")), api.OK)
	d.Room = math.MaxInt - 5
	wantStep(t, d, step{kind: toDelete, a: "f"}, disk(math.MaxInt, l[1]), api.OK)
	d.Room = -1
	wantStep(t, d, step{kind: toCrash, keeps: []int{2, 2}}, disk(0, file("f", "abcd", ""), file("g", "xy", "")), api.OK)
}

// lists are rows of files whose names are few, so that two often have one.
func lists() [][]api.File {
	files := []api.File{file("a", "", ""), file("a", "s", "wx"), file("b", "st", ""), file("b", "", "w"), file("", "s", "w"), file(text(17), "", "w")}
	l := [][]api.File{nil}
	for _, f := range files {
		l = append(l, []api.File{f})
		for _, g := range files {
			l = append(l, []api.File{f, g})
			for _, h := range files {
				l = append(l, []api.File{f, g, h})
			}
		}
	}
	return l
}

// steps are such of all kinds, of names that are there, that aren't, and that may not be.
func steps() []step {
	names := []string{"", "a", "b", "c", text(16), text(17)}
	var l []step
	for _, a := range names {
		for _, b := range append(names, "xy", "xyz") {
			l = append(l, step{kind: toAppend, a: a, b: b}, step{kind: toRename, a: a, b: b})
		}
		l = append(l, step{kind: toSync, a: a}, step{kind: toDelete, a: a})
	}
	for _, keeps := range [][]int{nil, {0}, {1}, {-1, 2}, {1, 1, 1}, {5, 0, math.MaxInt, 9}} {
		l = append(l, step{kind: toCrash, keeps: keeps})
	}
	for _, fuse := range []int{math.MinInt, -1, 0, 1, math.MaxInt} {
		l = append(l, step{kind: toArm, fuse: fuse})
	}
	return l
}

// TestTold: every step's answer is the told one, for all small disks with numbers at and about the edges.
func TestTold(t *testing.T) {
	all := steps()
	for _, l := range lists() {
		for _, room := range []int{math.MinInt, -1, 0, 2, 3, math.MaxInt - 1, math.MaxInt} {
			for _, fuse := range []int{math.MinInt, -2, -1, 0, 1, 2, 3, math.MaxInt} {
				for _, off := range []bool{false, true} {
					d := api.Disk{Files: l, Room: room, Fuse: fuse, Off: off}
					for _, x := range all {
						wantTold(t, d, x)
					}
				}
				if t.Failed() {
					return
				}
			}
		}
	}
}

// lot is a step by lot: most of them can be done.
func lot(r *rand.Rand, names []string) step {
	x := step{kind: r.Intn(kinds + 6), a: names[r.Intn(len(names))], b: names[r.Intn(len(names))], fuse: r.Intn(80) - 20}
	if x.kind >= kinds {
		x.kind = toAppend + x.kind%2
	}
	if x.kind == toAppend {
		x.b = text(r.Intn(12))
		if r.Intn(50) == 0 {
			x.b = text(r.Intn(70000))
		}
	}
	for range r.Intn(9) {
		x.keeps = append(x.keeps, r.Intn(20)-3)
	}
	return x
}

// manyNames are so many that the files come to be as many as there may be.
func manyNames() []string {
	l := []string{"", text(17), text(16)}
	for i := range 100 {
		l = append(l, fmt.Sprint("n", i))
	}
	return l
}

// whole is Room, and the bytes of all files.
func whole(d api.Disk) int {
	n := d.Room
	for _, f := range d.Files {
		n = round(n, len(f.Safe+f.Wait))
	}
	return n
}

// TestP3_5Room: room and bytes are together always the same, from any room on, and for such disks as none came to be, too.
func TestP3_5Room(t *testing.T) {
	r := rand.New(rand.NewSource(5))
	met := map[api.Errno]int{}
	for _, names := range [][]string{{"a", "b", "c", text(16), text(17)}, manyNames()} {
		for _, room := range []int{0, 1, 50, 400, 300000, math.MaxInt} {
			d, _ := New(room)
			for i := range 3000 {
				if d.Off && r.Intn(3) == 0 {
					d = Crash(d, nil)
				}
				x := lot(r, names)
				wantTold(t, d, x)
				d1, e := do(d, x)
				met[e]++
				if whole(d1) != room || d1.Room < 0 || len(d1.Files) > 64 {
					t.Fatalf("from %d on, step %d, %v of %s: %s", room, i, x, show(d), show(d1))
				}
				d = d1
			}
		}
	}
	for _, e := range []api.Errno{api.OK, api.ErrArg, api.ErrBig, api.ErrFull, api.ErrDead, api.ErrNone} {
		if met[e] == 0 {
			t.Errorf("the error %d wasn't met", e)
		}
	}
	for _, l := range lists() {
		for _, x := range steps() {
			d := api.Disk{Files: l, Room: math.MaxInt, Fuse: 1}
			if d1, _ := do(d, x); whole(d1) != whole(d) {
				t.Errorf("%v of %s: %s", x, show(d), show(d1))
			}
		}
	}
}

// TestP3_5Synced: what was synced is there behind every crash, unless its file was deleted, or another one took its name.
func TestP3_5Synced(t *testing.T) {
	r := rand.New(rand.NewSource(6))
	names := []string{"a", "b", "c", "d"}
	for range 60 {
		d, _ := New(2000)
		safe := map[string]string{}
		for i := range 300 {
			x := lot(r, names)
			d1, e := do(d, x)
			switch {
			case e != api.OK:
			case x.kind == toSync:
				safe[x.a], _ = Read(d1, x.a)
			case x.kind == toDelete:
				delete(safe, x.a)
			case x.kind == toRename && x.a != x.b:
				safe[x.b] = safe[x.a]
				delete(safe, x.a)
			}
			for name, s := range safe {
				if s1, e := Read(d1, name); e != api.OK || !strings.HasPrefix(s1, s) {
					t.Errorf("%q: %q, %d; want %q ahead", name, s1, e, s)
				}
			}
			if x.kind == toCrash { // what a crash kept is safe
				for _, f := range d1.Files {
					safe[f.Name] = f.Safe + f.Wait
				}
			}
			for name, s := range safe {
				wantSafe(t, d1, name, s, x.keeps)
			}
			if t.Failed() {
				t.Fatalf("step %d, %v of %s", i, x, show(d))
			}
			d = d1
		}
	}
}

// wantSafe: s is there behind a crash that keeps nothing, and is what begins the file behind any other, also behind two.
func wantSafe(t *testing.T, d api.Disk, name, s string, keeps []int) {
	t.Helper()
	if s1, _ := Read(Crash(d, nil), name); s1 != s {
		t.Errorf("%q behind a crash: %q; want %q", name, s1, s)
	}
	all := slices.Repeat([]int{math.MaxInt}, 64)
	before, _ := Read(d, name)
	if s1, _ := Read(Crash(d, all), name); s1 != before {
		t.Errorf("%q behind a crash that keeps all: %q; want %q", name, s1, before)
	}
	k := Crash(d, keeps)
	s1, _ := Read(k, name)
	s2, _ := Read(Crash(k, nil), name)
	if !strings.HasPrefix(s1, s) || !strings.HasPrefix(before, s1) || s2 != s1 {
		t.Errorf("%q behind crashes that keep %v: %q, %q; want %q and a beginning of what is behind it", name, keeps, s1, s2, s)
	}
}

// TestExample: the chapter's.
func TestExample(t *testing.T) {
	d, _ := New(10)
	d, _ = Append(d, "f", "ab")
	d, _ = Sync(d, "f")
	d, e := Append(d, "f", "cd")
	if e != api.OK {
		t.Error(e)
	}
	if s, e := Read(Crash(d, []int{1}), "f"); s != "abc" || e != api.OK {
		t.Errorf("%q, %d", s, e)
	}
	if s, e := Read(d, "f"); s != "abcd" || e != api.OK {
		t.Errorf("the disk that crashed is another value, and this one has %q, %d", s, e)
	}
}
