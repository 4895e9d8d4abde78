package wal

import (
	"fmt"
	"hash/adler32"
	"math"
	"math/rand"
	"slices"
	"strconv"
	"strings"
	"testing"

	"stanchion/api"
	"stanchion/disk"
)

// text is one of n bytes that aren't all alike, so that a wrong piece of it shows.
func text(n int) string {
	b := make([]byte, n)
	for i := range b {
		b[i] = byte('a' + (i+i/26)%26)
	}
	return string(b)
}

// sealed are texts with their sums, one behind the other, as chapter 2 tells it.
func sealed(l ...string) string {
	s := ""
	for _, t := range l {
		s += fmt.Sprintf("%d;%s%d;", len(t), t, adler32.Checksum([]byte(t)))
	}
	return s
}

// file is one of three texts.
func file(name, safe, wait string) api.File {
	return api.File{Name: name, Safe: safe, Wait: wait}
}

// drive is a disk with power, without a fuse.
func drive(room int, l ...api.File) api.Disk {
	return api.Disk{Files: l, Room: room, Fuse: -1}
}

// off is d without power.
func off(d api.Disk) api.Disk {
	d.Off = true
	return d
}

// armed is d with a fuse.
func armed(d api.Disk, fuse int) api.Disk {
	d.Fuse = fuse
	return d
}

// filled is d with so many other files more that there are n.
func filled(d api.Disk, n int) api.Disk {
	l := slices.Clone(d.Files)
	for i := range n - len(l) {
		l = append(l, file(fmt.Sprint("f", i), "", ""))
	}
	d.Files = l
	return d
}

// show tells a disk.
func show(d api.Disk) string {
	s := ""
	for _, f := range d.Files {
		s += fmt.Sprintf(" %q: %.60q %.60q (%d %d),", f.Name, f.Safe, f.Wait, len(f.Safe), len(f.Wait))
	}
	return fmt.Sprintf("{%.2000s Room %d, Fuse %d, Off %t, %d files}", s, d.Room, d.Fuse, d.Off, len(d.Files))
}

// The kinds of steps.
const (
	toPut = iota
	toSync
	toRecover
	toDrop
)

// step is a call that makes a disk another one, and its arguments.
type step struct {
	kind, seg, to int
	rec           string
}

func (x step) String() string {
	name := [...]string{"Put", "Sync", "Recover", "Drop"}[x.kind]
	return fmt.Sprintf("%s(%d, %d, %.40q (%d bytes))", name, x.seg, x.to, x.rec, len(x.rec))
}

// answer is what a step tells.
type answer struct {
	d    api.Disk
	recs []string
	seg  int
	e    api.Errno
}

func (a answer) String() string {
	return fmt.Sprintf("%s, %.300q (%d), %d, error %d", show(a.d), a.recs, len(a.recs), a.seg, a.e)
}

// same: are two answers, field by field?
func (a answer) same(b answer) bool {
	return disk.Same(a.d, b.d) && slices.Equal(a.recs, b.recs) && a.seg == b.seg && a.e == b.e
}

// do does a step; a number that it doesn't tell is the one that was handed in.
func do(d api.Disk, x step) answer {
	a := answer{seg: x.seg}
	switch x.kind {
	case toPut:
		a.d, a.seg, a.e = Put(d, x.seg, x.rec)
	case toSync:
		a.d, a.e = Sync(d, x.seg)
	case toRecover:
		a.d, a.recs, a.seg, a.e = Recover(d, x.seg)
	case toDrop:
		a.d, a.e = Drop(d, x.seg, x.to)
	}
	return a
}

// isSeg: is n a segment's number?
func isSeg(n int) bool {
	return 1 <= n && n <= 1000000
}

// there are a file's bytes, and whether there is one.
func there(d api.Disk, name string) (string, bool) {
	s, e := disk.Read(d, name)
	return s, e == api.OK
}

// told is a step's answer, word by word as P4.2 to P4.4 tell it.
func told(d api.Disk, x step) answer {
	switch x.kind {
	case toPut:
		return toldPut(d, x.seg, x.rec)
	case toSync:
		return toldSync(d, x.seg)
	case toRecover:
		return toldRecover(d, x.seg)
	}
	return toldDrop(d, x.seg, x.to)
}

func toldPut(d api.Disk, seg int, rec string) answer {
	if !isSeg(seg) {
		return answer{d: d, seg: seg, e: api.ErrArg}
	}
	if len(rec) > 2048 {
		return answer{d: d, seg: seg, e: api.ErrBig}
	}
	taken := seg
	if s, is := there(d, "w"+strconv.Itoa(seg)); is && len(s) >= 256 {
		var e api.Errno
		if d, e = disk.Sync(d, "w"+strconv.Itoa(seg)); e != api.OK {
			return answer{d: d, seg: seg, e: e}
		}
		if seg == 1000000 {
			return answer{d: d, seg: seg, e: api.ErrFull}
		}
		taken = seg + 1
	}
	d, e := disk.Append(d, "w"+strconv.Itoa(taken), sealed(rec))
	return answer{d: d, seg: taken, e: e}
}

func toldSync(d api.Disk, seg int) answer {
	name := ""
	if isSeg(seg) {
		name = "w" + strconv.Itoa(seg)
	}
	if _, is := there(d, name); !is {
		return answer{d: d, seg: seg}
	}
	d, e := disk.Sync(d, name)
	return answer{d: d, seg: seg, e: e}
}

// toldScan takes a text, its length and its sum off by strconv and another's sums.
func toldScan(s string) ([]string, int) {
	var l []string
	n := 0
	for {
		length, rest, one := strings.Cut(s[n:], ";")
		size, e := strconv.Atoi(length)
		if !one || e != nil || length != strconv.Itoa(size) || size < 0 || size > 2048 || size > len(rest) {
			return l, n
		}
		f := sealed(rest[:size])
		if !strings.HasPrefix(s[n:], f) {
			return l, n
		}
		l, n = append(l, rest[:size]), n+len(f)
	}
}

func toldRecover(d api.Disk, from int) answer {
	if !isSeg(from) {
		return answer{d: d, seg: from, e: api.ErrArg}
	}
	a := answer{d: d, seg: from}
	for seg := from; isSeg(seg); seg++ {
		s, is := there(d, "w"+strconv.Itoa(seg))
		if !is {
			break
		}
		l, n := toldScan(s)
		a.recs, a.seg = append(a.recs, l...), seg
		if n < len(s) {
			a.d, a.e = toldCut(d, seg, s[:n])
			break
		}
	}
	if a.e != api.OK {
		a.recs, a.seg = nil, from
	}
	return a
}

// toldCut does the steps of a cut, one by one; which are to be done, is told by the disk that was handed in.
func toldCut(d api.Disk, seg int, s string) (api.Disk, api.Errno) {
	var steps []func(api.Disk) (api.Disk, api.Errno)
	if _, is := there(d, "w.new"); is {
		steps = append(steps, func(d api.Disk) (api.Disk, api.Errno) { return disk.Delete(d, "w.new") })
	}
	steps = append(steps,
		func(d api.Disk) (api.Disk, api.Errno) { return disk.Append(d, "w.new", s) },
		func(d api.Disk) (api.Disk, api.Errno) { return disk.Sync(d, "w.new") },
		func(d api.Disk) (api.Disk, api.Errno) { return disk.Rename(d, "w.new", "w"+strconv.Itoa(seg)) })
	for n := seg + 1; n <= 1000000; n++ {
		name := "w" + strconv.Itoa(n)
		if _, is := there(d, name); !is {
			break
		}
		steps = append(steps, func(d api.Disk) (api.Disk, api.Errno) { return disk.Delete(d, name) })
	}
	for _, f := range steps {
		var e api.Errno
		if d, e = f(d); e != api.OK {
			return d, e
		}
	}
	return d, api.OK
}

// toldDrop goes through all numbers that some file's name ends with, since from and to may be far from each other.
func toldDrop(d api.Disk, from, to int) answer {
	a := answer{d: d, seg: from}
	var l []int
	for _, f := range d.Files {
		n, _ := strconv.Atoi(strings.TrimLeft(f.Name, "w"))
		l = append(l, n)
	}
	slices.Sort(l)
	for _, n := range slices.Compact(l) {
		_, is := there(a.d, "w"+strconv.Itoa(n))
		if a.e == api.OK && is && isSeg(n) && from <= n && n < to {
			a.d, a.e = disk.Delete(a.d, "w"+strconv.Itoa(n))
		}
	}
	return a
}

// want: a step's answer; that nothing that is handed in is written into, the spare room of its list neither, is seen on the way, and that what comes out has memory of its own.
func want(t *testing.T, d api.Disk, x step, a answer) {
	t.Helper()
	spare := file("spare", "room", "!")
	in := d
	in.Files = append(append(make([]api.File, 0, len(d.Files)+4), d.Files...), spare, spare, spare)[:len(d.Files)]
	got := do(in, x)
	if !got.same(a) {
		t.Errorf("%v of %s:\n%v; want\n%v", x, show(d), got, a)
	}
	for i := range got.d.Files {
		got.d.Files[i] = file("other", "other", "other")
	}
	if cap(got.d.Files) > len(got.d.Files) {
		_ = append(got.d.Files, file("more", "more", "more"))
	}
	for i := range got.recs {
		got.recs[i] = "other"
	}
	for _, f := range in.Files[len(d.Files) : len(d.Files)+3] {
		if f != spare {
			t.Errorf("%v of %s wrote into spare room, or shares it", x, show(d))
		}
	}
	if !disk.Same(in, d) {
		t.Errorf("%v of %s wrote into what was handed in, or shares it", x, show(d))
	}
	if again := do(d, x); !again.same(a) {
		t.Errorf("%v of %s, asked again:\n%v; want\n%v", x, show(d), again, a)
	}
}

// wantTold: a step's answer is the told one.
func wantTold(t *testing.T, d api.Disk, x step) {
	t.Helper()
	want(t, d, x, told(d, x))
}

// wantKept: an error, with the disk and the number that were handed in.
func wantKept(t *testing.T, d api.Disk, x step, e api.Errno) {
	t.Helper()
	want(t, d, x, answer{d: d, seg: x.seg, e: e})
}

// noSegs are such as are no segment's number.
func noSegs() []int {
	return []int{0, -1, -2, -1000000, math.MinInt32, math.MinInt, 1000001, 1000002, math.MaxInt32, math.MaxInt}
}

// TestP4_1Name: numbers that are a segment's, and such that aren't.
func TestP4_1Name(t *testing.T) {
	for seg, name := range map[int]string{1: "w1", 2: "w2", 9: "w9", 10: "w10", 100: "w100", 12345: "w12345", 999999: "w999999", 1000000: "w1000000"} {
		if s := Name(seg); s != name {
			t.Errorf("Name(%d): %q; want %q", seg, s, name)
		}
	}
	for _, seg := range noSegs() {
		if s := Name(seg); s != "" {
			t.Errorf("Name(%d): %q; want none", seg, s)
		}
	}
	seen := map[string]int{}
	for seg := 1; seg <= 1000000; seg++ {
		s := Name(seg)
		if seen[s] != 0 || s == "" || len(s) > api.MaxName {
			t.Fatalf("Name(%d): %q, that of %d", seg, s, seen[s])
		}
		seen[s] = seg
	}
}

func wantScan(t *testing.T, s string, l []string, n int) {
	t.Helper()
	if l1, n1 := Scan(s); !slices.Equal(l1, l) || n1 != n {
		t.Errorf("Scan(%.80q, %d bytes): %.80q, %d; want %.80q, %d", s, len(s), l1, n1, l, n)
	}
}

// rows are rows of texts: none, one, many, empty ones, such that look like sealed ones, great ones.
func rows() [][]string {
	return [][]string{nil, {""}, {"a"}, {"", "", ""}, {"a", "b", "a"}, {"\x00", "\xff\xfe", ";", "1;"}, {"1;a6422626;"}, {sealed("a", ""), "b"},
		{text(255), text(256), text(257)}, {text(2047)}, {text(2048)}, {text(2048), "z", text(2048)}, slices.Repeat([]string{"x"}, 500)}
}

// TestP4_1Scan: records and nothing else, and with bytes behind them that are none.
func TestP4_1Scan(t *testing.T) {
	for _, l := range rows() {
		s := sealed(l...)
		wantScan(t, s, l, len(s))
		for _, behind := range []string{";", "0", "0;", "0;1", "0;2;", "1;", "1;a", "1;b6422626;", "1;a6422627;", "01;a6422626;", "1;a06422626;", "2;a6422626;",
			"-1;a6422626;", "+1;a6422626;", " 1;a6422626;", "1;a6422626", "99999999999999999999999;", "18446744073709551615;a", "9223372036854775808;a", "a", "\x00", "w"} {
			wantScan(t, s+behind, l, len(s))
		}
		more := sealed(text(2049)) // its sum is the right one, it is too long
		wantScan(t, s+more, l, len(s))
		wantScan(t, s+more+sealed("a"), l, len(s))
		wantScan(t, s+"!"+sealed("a"), l, len(s)) // what stands behind what is none isn't looked at
		wantScan(t, s+sealed("new"), append(slices.Clone(l), "new"), len(s)+len(sealed("new")))
	}
	wantScan(t, sealed("a"), []string{"a"}, 11)
	wantScan(t, "1;a6422626;1;b", []string{"a"}, 11)
}

// TestP4_1ScanTorn: bytes that end within a record; and such of which one was changed.
func TestP4_1ScanTorn(t *testing.T) {
	l := []string{"first", "", text(40), "1;a6422626;", "last"}
	s := sealed(l...)
	for n := range len(s) + 1 {
		whole := 0 // so many records are whole
		for whole < len(l) && len(sealed(l[:whole+1]...)) <= n {
			whole++
		}
		wantScan(t, s[:n], l[:whole], len(sealed(l[:whole]...)))
		for _, c := range []byte{0, ';', '0', '1', 'a', 0xff} {
			if n == len(s) || s[n] == c {
				continue
			}
			changed := s[:n] + string([]byte{c}) + s[n+1:]
			wantScan(t, changed, l[:whole], len(sealed(l[:whole]...)))
		}
	}
}

// TestP4_2Put: into a segment that is there, and into one that isn't; records of no byte up to 2048, whatever else is on the disk.
func TestP4_2Put(t *testing.T) {
	a := sealed("a")
	want(t, drive(100), step{seg: 1, rec: "a"}, answer{d: drive(89, file("w1", "", a)), seg: 1})
	want(t, drive(100), step{seg: 1}, answer{d: drive(96, file("w1", "", "0;1;")), seg: 1})
	want(t, drive(100, file("w1", "", a)), step{seg: 1, rec: "a"}, answer{d: drive(89, file("w1", "", a+a)), seg: 1})
	want(t, drive(100, file("w1", a, "")), step{seg: 1, rec: "a"}, answer{d: drive(89, file("w1", a, a)), seg: 1})
	want(t, drive(100, file("w1", "", "")), step{seg: 1, rec: "a"}, answer{d: drive(89, file("w1", "", a)), seg: 1})
	want(t, drive(100, file("w1", "", "torn")), step{seg: 1, rec: "a"}, answer{d: drive(89, file("w1", "", "torn"+a)), seg: 1})
	want(t, drive(100, file("x", "y", "z"), file("w2", "", "")), step{seg: 1, rec: "a"}, answer{d: drive(89, file("x", "y", "z"), file("w2", "", ""), file("w1", "", a)), seg: 1})
	for _, seg := range []int{1, 2, 10, 999999, 1000000} {
		d := drive(100, file("w1", "", ""), file("w10", a, ""), file("", text(300), ""), file("w", "", ""))
		wantTold(t, d, step{seg: seg, rec: "abc"})
		_, seg1, e := Put(d, seg, "abc")
		if seg1 != seg || e != api.OK {
			t.Errorf("Put into %d: %d, %d", seg, seg1, e)
		}
	}
	for _, n := range []int{1, 255, 256, 257, 2047, 2048} {
		rec := text(n)
		f := sealed(rec)
		want(t, drive(len(f)), step{seg: 3, rec: rec}, answer{d: drive(0, file("w3", "", f)), seg: 3})
	}
}

// TestP4_2PutFull: segments of fewer bytes than 256, of as many and of more, be they safe, or wait; the next one takes the record, whatever it has.
func TestP4_2PutFull(t *testing.T) {
	x := sealed("x")
	for _, n := range []int{0, 1, 254, 255, 256, 257, 300, 5000} {
		s := text(n)
		for _, safe := range []int{0, 1, n / 2, n - 1, n} {
			f := file("w7", s[:min(max(safe, 0), n)], s[min(max(safe, 0), n):])
			d := drive(100, f)
			if n < 256 {
				want(t, d, step{seg: 7, rec: "x"}, answer{d: drive(100-len(x), file("w7", f.Safe, f.Wait+x)), seg: 7})
				continue
			}
			want(t, d, step{seg: 7, rec: "x"}, answer{d: drive(100-len(x), file("w7", s, ""), file("w8", "", x)), seg: 8})
			for _, next := range []string{"", sealed("y"), text(256), text(3000)} { // only one is gone on
				d := drive(100, file("w8", next, "z"), f, file("w9", "", ""))
				want(t, d, step{seg: 7, rec: "x"}, answer{d: drive(100-len(x), file("w8", next, "z"+x), file("w7", s, ""), file("w9", "", "")), seg: 8})
			}
		}
	}
	want(t, drive(50, file("w999999", "", text(256))), step{seg: 999999, rec: "x"}, answer{d: drive(50-len(x), file("w999999", text(256), ""), file("w1000000", "", x)), seg: 1000000})
}

// TestP4_2PutLast: the last segment, when it is full, and when it isn't; a file without a name is none behind it.
func TestP4_2PutLast(t *testing.T) {
	x := sealed("x")
	for _, other := range []api.File{file("w1", "", "1"), file("", "", "2"), file("w1000001", "", "3")} {
		want(t, drive(50, file("w1000000", "ab", text(253)), other), step{seg: 1000000, rec: "x"}, answer{d: drive(50-len(x), file("w1000000", "ab", text(253)+x), other), seg: 1000000})
		for _, n := range []int{254, 255, 2000} {
			d := drive(0, file("w1000000", "ab", text(n)), other)
			for _, rec := range []string{"", "x", text(2048)} {
				want(t, d, step{seg: 1000000, rec: rec}, answer{d: drive(0, file("w1000000", "ab"+text(n), ""), other), seg: 1000000, e: api.ErrFull})
				wantKept(t, off(d), step{seg: 1000000, rec: rec}, api.ErrDead)
			}
			wantKept(t, d, step{seg: 1000000, rec: text(2049)}, api.ErrBig)
		}
	}
}

// TestP4_2PutWrong: numbers that are no segment's, records that are too long, and which of several errors is told.
func TestP4_2PutWrong(t *testing.T) {
	d := drive(0, file("", text(300), "a"), file("w1", "", text(256)), file("w0", "", ""), file("w-1", "", ""), file("w1000001", "", text(300)))
	for _, d := range []api.Disk{d, off(d), armed(d, 0), filled(d, 64), {}} {
		for _, seg := range noSegs() {
			for _, rec := range []string{"", "a", text(2048), text(2049), text(70000)} {
				wantKept(t, d, step{seg: seg, rec: rec}, api.ErrArg)
			}
		}
		for _, seg := range []int{1, 2, 1000000} {
			for _, rec := range []string{text(2049), text(2050), text(70000)} {
				wantKept(t, d, step{seg: seg, rec: rec}, api.ErrBig)
			}
		}
	}
}

// TestP4_2PutDisk: the disk's errors: no power, no room, too many files, a file that is too long; also when a next segment was taken ahead of them.
func TestP4_2PutDisk(t *testing.T) {
	x := sealed("x")
	full, part := file("w1", "a", text(255)), file("w1", "a", text(254))
	synced := file("w1", "a"+text(255), "")
	for _, d := range []api.Disk{drive(100), drive(100, part), drive(100, full), drive(0, full), filled(drive(100, full), 64)} {
		wantKept(t, off(d), step{seg: 1, rec: "x"}, api.ErrDead)
	}
	for room := range len(x) {
		wantKept(t, drive(room), step{seg: 1, rec: "x"}, api.ErrFull)
		wantKept(t, drive(room, part), step{seg: 1, rec: "x"}, api.ErrFull)
		want(t, drive(room, full), step{seg: 1, rec: "x"}, answer{d: drive(room, synced), seg: 2, e: api.ErrFull})
		want(t, drive(room, full, file("w2", "y", "z")), step{seg: 1, rec: "x"}, answer{d: drive(room, synced, file("w2", "y", "z")), seg: 2, e: api.ErrFull})
	}
	wantKept(t, filled(drive(100), 64), step{seg: 1, rec: "x"}, api.ErrFull)
	want(t, filled(drive(100, full), 64), step{seg: 1, rec: "x"}, answer{d: filled(drive(100, synced), 64), seg: 2, e: api.ErrFull})
	want(t, filled(drive(100, part), 64), step{seg: 1, rec: "x"}, answer{d: filled(drive(100-len(x), file("w1", "a", text(254)+x)), 64), seg: 1})
	want(t, filled(drive(100), 63), step{seg: 1, rec: "x"}, answer{d: drive(100-len(x), append(filled(drive(0), 63).Files, file("w1", "", x))...), seg: 1})
	for _, over := range []int{0, 1} {
		next := file("w2", text(65000), text(536-len(x)+over))
		a := answer{d: drive(100, synced, next), seg: 2, e: api.ErrBig}
		if over == 0 {
			a = answer{d: drive(100-len(x), synced, file("w2", next.Safe, next.Wait+x)), seg: 2}
		}
		want(t, drive(100, full, next), step{seg: 1, rec: "x"}, a)
	}
}

// TestP4_2PutFuse: a fuse at each byte of what is put.
func TestP4_2PutFuse(t *testing.T) {
	rec := text(30)
	f := sealed(rec)
	for fuse := range len(f) + 3 {
		n, e := fuse, api.ErrDead
		if fuse >= len(f) {
			n, e = len(f), api.OK
		}
		power := func(d api.Disk) api.Disk {
			d.Fuse, d.Off = fuse-n, e != api.OK
			return d
		}
		want(t, armed(drive(99), fuse), step{seg: 5, rec: rec}, answer{d: power(drive(99-n, file("w5", "", f[:n]))), seg: 5, e: e})
		want(t, armed(drive(99, file("w5", "ab", "cd")), fuse), step{seg: 5, rec: rec}, answer{d: power(drive(99-n, file("w5", "ab", "cd"+f[:n]))), seg: 5, e: e})
		full := drive(99, file("w5", "ab", text(254)))
		want(t, armed(full, fuse), step{seg: 5, rec: rec}, answer{d: power(drive(99-n, file("w5", "ab"+text(254), ""), file("w6", "", f[:n]))), seg: 6, e: e})
	}
	last := drive(9, file("w1000000", "", text(256))) // a sync needs no fuse
	want(t, armed(last, 0), step{seg: 1000000, rec: rec}, answer{d: armed(drive(9, file("w1000000", text(256), "")), 0), seg: 1000000, e: api.ErrFull})
}

// TestP4_2Sync: of a segment that is there, of one that isn't, of numbers that are no segment's.
func TestP4_2Sync(t *testing.T) {
	e, f, g := file("w1", "1", "2"), file("w2", "ab", "cd"), file("w1000000", "", "z")
	d := drive(5, e, f, g, file("w2", "x", "y"), file("w0", "p", "q"), file("w1000001", "r", "s"), file("w02", "t", "u"))
	for _, d := range []api.Disk{d, armed(d, 0), armed(d, 1), armed(d, -9), filled(d, 64)} {
		for at, seg := range []int{1, 2, 1000000} {
			after := d
			after.Files = slices.Clone(d.Files)
			after.Files[at].Safe, after.Files[at].Wait = d.Files[at].Safe+d.Files[at].Wait, ""
			want(t, d, step{kind: toSync, seg: seg}, answer{d: after, seg: seg})
			want(t, after, step{kind: toSync, seg: seg}, answer{d: after, seg: seg})
			wantKept(t, off(d), step{kind: toSync, seg: seg}, api.ErrDead)
		}
		for _, seg := range append(noSegs(), 3, 20, 999999) {
			wantKept(t, d, step{kind: toSync, seg: seg}, api.OK)
			wantKept(t, off(d), step{kind: toSync, seg: seg}, api.OK)
		}
	}
	wantKept(t, api.Disk{}, step{kind: toSync, seg: 1}, api.OK)
	nameless := drive(5, e, file("", "ab", "cd"))
	for _, seg := range noSegs() { // the file whose name is the empty text
		want(t, nameless, step{kind: toSync, seg: seg}, answer{d: drive(5, e, file("", "abcd", "")), seg: seg})
		wantKept(t, off(nameless), step{kind: toSync, seg: seg}, api.ErrDead)
	}
	wantKept(t, nameless, step{kind: toSync, seg: 2}, api.OK)
}

// TestP4_3Recover: logs that are whole: of no segment, of one, of many, of empty ones; from each of them on; what isn't of them stays.
func TestP4_3Recover(t *testing.T) {
	one, two, three := file("w1", sealed("a", "b"), sealed("c")), file("w2", "", ""), file("w3", "", sealed("d", text(2048)))
	for _, d := range []api.Disk{drive(0, one, two, three), drive(0, three, file("w.new", "odd", "odd"), one, file("w5", "odd", "odd"), two, file("", "?", "?"), file("w0", "?", "?"))} {
		for _, d := range []api.Disk{d, off(d), armed(d, 0), armed(d, 3)} {
			want(t, d, step{kind: toRecover, seg: 1}, answer{d: d, recs: []string{"a", "b", "c", "d", text(2048)}, seg: 3})
			want(t, d, step{kind: toRecover, seg: 2}, answer{d: d, recs: []string{"d", text(2048)}, seg: 3})
			want(t, d, step{kind: toRecover, seg: 3}, answer{d: d, recs: []string{"d", text(2048)}, seg: 3})
			wantKept(t, d, step{kind: toRecover, seg: 4}, api.OK)
			wantKept(t, d, step{kind: toRecover, seg: 1000000}, api.OK)
		}
	}
	wantKept(t, drive(9), step{kind: toRecover, seg: 1}, api.OK)
	wantKept(t, api.Disk{}, step{kind: toRecover, seg: 7}, api.OK)
	wantKept(t, drive(9, two), step{kind: toRecover, seg: 2}, api.OK)
	wantKept(t, drive(9, two), step{kind: toRecover, seg: 1}, api.OK)
	last := drive(9, file("w999999", sealed("a"), ""), file("w1000000", sealed("b"), ""), file("w1000001", sealed("c"), ""), file("", sealed("d"), ""))
	want(t, last, step{kind: toRecover, seg: 999999}, answer{d: last, recs: []string{"a", "b"}, seg: 1000000})
	want(t, last, step{kind: toRecover, seg: 1000000}, answer{d: last, recs: []string{"b"}, seg: 1000000})
	var long []api.File
	var recs []string
	for i := range 200 {
		recs = append(recs, fmt.Sprint("rec", i))
		long = append(long, file(fmt.Sprint("w", i+7), sealed(recs[i]), ""))
	}
	slices.Reverse(long)
	want(t, drive(0, long...), step{kind: toRecover, seg: 7}, answer{d: drive(0, long...), recs: recs, seg: 206})
	want(t, drive(0, long...), step{kind: toRecover, seg: 107}, answer{d: drive(0, long...), recs: recs[100:], seg: 206})
}

// TestP4_3RecoverWrong: numbers that are no segment's, whatever else is wrong.
func TestP4_3RecoverWrong(t *testing.T) {
	d := drive(0, file("", "torn", ""), file("w1", "torn", ""), file("w0", "torn", ""), file("w1000001", "torn", ""))
	for _, d := range []api.Disk{d, off(d), armed(d, 0), filled(d, 64), {}} {
		for _, seg := range noSegs() {
			wantKept(t, d, step{kind: toRecover, seg: seg}, api.ErrArg)
		}
	}
}

// TestP4_3Cut: a segment that is torn, or changed, with w.new there and not, with segments behind it and with none.
func TestP4_3Cut(t *testing.T) {
	a, b := sealed("a"), sealed("b")
	torn := []string{"1", a[:10], "torn", "1;a6422627;", "!" + b, sealed(text(2049)), sealed(text(2049)) + b, strings.Repeat("x", 300)}
	for _, s := range torn {
		for _, safe := range []int{0, 5, len(a), len(a) + 1} {
			f := file("w1", (a + s)[:safe], (a + s)[safe:])
			n := len(s) // so many bytes go
			x := step{kind: toRecover, seg: 1}
			ok := answer{d: drive(20+n, file("w1", a, "")), recs: []string{"a"}, seg: 1}
			want(t, drive(20, f), x, ok)
			ok.d.Room += 6
			want(t, drive(20, file("w.new", "old", "old"), f), x, ok)
			want(t, drive(20, f, file("w.new", "old", "old")), x, ok)
			ok.d = drive(20+n+2*len(b), file("w5", b, ""), file("w1", a, "")) // there is no w4: what is behind it stays
			want(t, drive(20, file("w2", b, ""), file("w5", b, ""), f, file("w3", "", b)), x, ok)
			ok.d.Room += 6
			want(t, drive(20, file("w3", "", b), f, file("w2", b, ""), file("w.new", "ol", "dold"), file("w5", b, "")), x, ok)
		}
		whole := file("w8", b, a)
		want(t, drive(0, file("w9", s, ""), whole, file("w10", b, "")), step{kind: toRecover, seg: 8}, answer{d: drive(len(s)+len(b), whole, file("w9", "", "")), recs: []string{"b", "a"}, seg: 9})
		want(t, drive(20, file("w1000000", "", a+s), file("w1000001", b, ""), file("", b, "")), step{kind: toRecover, seg: 1000000},
			answer{d: drive(20+len(s), file("w1000001", b, ""), file("", b, ""), file("w1000000", a, "")), recs: []string{"a"}, seg: 1000000})
		want(t, drive(20, file("w999999", "", a+s), file("w1000000", b, ""), file("", b, "")), step{kind: toRecover, seg: 999999},
			answer{d: drive(20+len(s)+len(b), file("", b, ""), file("w999999", a, "")), recs: []string{"a"}, seg: 999999})
	}
}

// TestP4_3CutBytes: a segment that ends at each byte, and one of which each byte was changed.
func TestP4_3CutBytes(t *testing.T) {
	l := []string{"first", "", text(20), "last"}
	s := sealed(l...)
	for n := range len(s) + 1 {
		whole := 0
		for whole < len(l) && len(sealed(l[:whole+1]...)) <= n {
			whole++
		}
		end := len(sealed(l[:whole]...))
		want(t, drive(200, file("w1", s[:n/2], s[n/2:n]), file("w2", s, "")), step{kind: toRecover, seg: 1}, toldRecover(drive(200, file("w1", s[:n/2], s[n/2:n]), file("w2", s, "")), 1))
		a := answer{d: drive(200, file("w1", "", s[:n])), recs: l[:whole], seg: 1}
		if end < n {
			a.d = drive(200+n-end, file("w1", s[:end], ""))
		}
		want(t, drive(200, file("w1", "", s[:n])), step{kind: toRecover, seg: 1}, a)
		if n < len(s) {
			changed := s[:n] + string([]byte{s[n] ^ 1}) + s[n+1:]
			want(t, drive(200, file("w1", changed, "")), step{kind: toRecover, seg: 1}, answer{d: drive(200+len(s)-end, file("w1", s[:end], "")), recs: l[:whole], seg: 1})
		}
	}
}

// TestP4_3CutErrors: an error of the disk at each step of a cut: no power, no room, too many files.
func TestP4_3CutErrors(t *testing.T) {
	a, b, x := sealed("a"), sealed("b"), step{kind: toRecover, seg: 1}
	w1, old, w2, w3 := file("w1", a, "torn"), file("w.new", "old", ""), file("w2", b, ""), file("w3", b, "")
	d := drive(100, w1, old, w2, w3)
	wantKept(t, off(d), x, api.ErrDead)
	wantKept(t, off(drive(100, w1)), x, api.ErrDead)
	for room := range len(a) {
		wantKept(t, drive(room, w1), x, api.ErrFull)
		wantKept(t, drive(room, w2, w1), x, api.ErrFull)
	}
	for room := range len(a) - len("old") { // the old w.new goes ahead of it
		want(t, drive(room, w1, old, w2), x, answer{d: drive(room+3, w1, w2), seg: 1, e: api.ErrFull})
	}
	want(t, drive(len(a)-3, w1, old, w2), x, answer{d: drive(len(a)+4+len(b), file("w1", a, "")), recs: []string{"a"}, seg: 1})
	wantKept(t, filled(drive(100, w1), 64), x, api.ErrFull)
	want(t, filled(drive(100, w1), 63), x, toldRecover(filled(drive(100, w1), 63), 1))
	if c := do(filled(drive(100, w1, old), 64), x); c.e != api.OK || len(c.d.Files) != 63 {
		t.Errorf("%v", c)
	}
	wantKept(t, filled(drive(100, file("w1", "torn", "")), 64), x, api.ErrFull)
	want(t, drive(0, file("w1", "torn", "")), x, answer{d: drive(4, file("w1", "", "")), seg: 1})
	dead := func(d api.Disk) answer { return answer{d: off(armed(d, 0)), seg: 1, e: api.ErrDead} }
	want(t, armed(d, 0), x, dead(d))
	for n := range len(a) { // the Delete is one, then each byte
		want(t, armed(d, 1+n), x, dead(drive(103-n, w1, w2, w3, file("w.new", "", a[:n]))))
		want(t, armed(drive(100, w1, w2), n), x, dead(drive(100-n, w1, w2, file("w.new", "", a[:n]))))
	}
	n := len(a)
	want(t, armed(d, 1+n), x, dead(drive(103-n, w1, w2, w3, file("w.new", a, "")))) // the Sync needs none, the Rename does
	want(t, armed(d, 2+n), x, dead(drive(107, w2, w3, file("w1", a, ""))))
	want(t, armed(d, 3+n), x, dead(drive(107+n, w3, file("w1", a, ""))))
	for more := range 3 {
		want(t, armed(d, 4+n+more), x, answer{d: armed(drive(107+2*n, file("w1", a, "")), more), recs: []string{"a"}, seg: 1})
	}
	later := armed(drive(100, file("w2", b, ""), file("w3", b, ""), file("w4", a+"?", "")), 0) // none of the records that were read ahead of it is told
	want(t, later, step{kind: toRecover, seg: 2}, answer{d: off(with(later, file("w.new", "", ""))), seg: 2, e: api.ErrDead})
}

// with is d with a file more.
func with(d api.Disk, f api.File) api.Disk {
	d.Files = append(slices.Clone(d.Files), f)
	return d
}

// TestP4_4Drop: spans of segments: of those that are there, of none, from below 1, up to above 1000000, and turned round.
func TestP4_4Drop(t *testing.T) {
	f := func(n int) api.File { return file(fmt.Sprint("w", n), "ab", "c") }
	odd := []api.File{file("w.new", "a", "b"), file("w0", "a", ""), file("", "a", ""), file("w1000001", "a", ""), file("w", "", ""), file("w01", "", ""), file("w-1", "", ""), file("w+2", "", ""), file("1", "", ""), file("x1", "", ""), file("ww1", "", ""), file("w1 ", "", "")}
	d := func(room int, segs ...int) api.Disk {
		l := slices.Clone(odd)
		for _, n := range segs {
			l = append(l, f(n))
		}
		return drive(room, l...)
	}
	all := d(1, 3, 1, 7, 2, 1000000, 999999)
	for _, x := range []struct {
		from, to int
		left     []int
	}{
		{1, 2, []int{3, 7, 2, 1000000, 999999}}, {1, 3, []int{3, 7, 1000000, 999999}}, {2, 3, []int{3, 1, 7, 1000000, 999999}}, {1, 7, []int{7, 1000000, 999999}},
		{1, 8, []int{1000000, 999999}}, {4, 7, []int{3, 1, 7, 2, 1000000, 999999}}, {4, 8, []int{3, 1, 2, 1000000, 999999}},
		{0, 1, []int{3, 1, 7, 2, 1000000, 999999}}, {0, 2, []int{3, 7, 2, 1000000, 999999}}, {-5, 3, []int{3, 7, 1000000, 999999}}, {math.MinInt, 3, []int{3, 7, 1000000, 999999}},
		{1000000, 1000000, []int{3, 1, 7, 2, 1000000, 999999}}, {1000000, 1000001, []int{3, 1, 7, 2, 999999}}, {999999, 1000000, []int{3, 1, 7, 2, 1000000}},
		{8, 1000000, []int{3, 1, 7, 2, 1000000}}, {8, 1000002, []int{3, 1, 7, 2}}, {8, math.MaxInt, []int{3, 1, 7, 2}}, {1, math.MaxInt, nil}, {math.MinInt, math.MaxInt, nil},
		{1, 1, []int{3, 1, 7, 2, 1000000, 999999}}, {3, 1, []int{3, 1, 7, 2, 1000000, 999999}}, {8, 1, []int{3, 1, 7, 2, 1000000, 999999}}, {math.MaxInt, math.MinInt, []int{3, 1, 7, 2, 1000000, 999999}},
		{1, math.MinInt, []int{3, 1, 7, 2, 1000000, 999999}}, {-3, 0, []int{3, 1, 7, 2, 1000000, 999999}}, {1000001, math.MaxInt, []int{3, 1, 7, 2, 1000000, 999999}}, {1000001, 1000002, []int{3, 1, 7, 2, 1000000, 999999}},
	} {
		want(t, all, step{kind: toDrop, seg: x.from, to: x.to}, answer{d: d(1+3*(6-len(x.left)), x.left...), seg: x.from})
		wantTold(t, all, step{kind: toDrop, seg: x.from, to: x.to})
		wantKept(t, d(0), step{kind: toDrop, seg: x.from, to: x.to}, api.OK)
		if len(x.left) == 6 { // where none is dropped, no power is needed
			wantKept(t, off(all), step{kind: toDrop, seg: x.from, to: x.to}, api.OK)
		} else {
			wantKept(t, off(all), step{kind: toDrop, seg: x.from, to: x.to}, api.ErrDead)
		}
	}
	wantKept(t, api.Disk{}, step{kind: toDrop, seg: 1, to: 9}, api.OK)
	wantKept(t, off(drive(3)), step{kind: toDrop, seg: 1, to: 9}, api.OK)
	twice := drive(1, f(1), file("w1", "x", ""), f(2)) // the file of a name is the first one of it
	want(t, twice, step{kind: toDrop, seg: 1, to: 2}, answer{d: drive(4, file("w1", "x", ""), f(2)), seg: 1})
}

// TestP4_4DropFuse: the power goes at each of the segments; they go from the lowest number on, not in the disk's order.
func TestP4_4DropFuse(t *testing.T) {
	f := func(n int) api.File { return file(fmt.Sprint("w", n), "ab", "") }
	d := drive(0, f(10), f(3), f(9), f(1), f(2))
	left := [][]api.File{d.Files, {f(10), f(3), f(9), f(2)}, {f(10), f(3), f(9)}, {f(10), f(9)}, {f(10)}, nil}
	for fuse, l := range left {
		a := answer{d: armed(drive(2*fuse, l...), 0), seg: 1}
		if len(l) > 0 {
			a.d.Off, a.e = true, api.ErrDead
		}
		want(t, armed(d, fuse), step{kind: toDrop, seg: 1, to: 11}, a)
		want(t, armed(d, fuse), step{kind: toDrop, seg: 1, to: 1000001}, a)
	}
	want(t, armed(d, 0), step{kind: toDrop, seg: 4, to: 9}, answer{d: armed(d, 0), seg: 4})
	want(t, armed(d, 0), step{kind: toDrop, seg: 4, to: 10}, answer{d: off(armed(d, 0)), seg: 4, e: api.ErrDead})
}

// lists are rows of files: segments about 1 and about the last one, w.new, names that are none, and two of one name.
func lists() [][]api.File {
	a, full := sealed("a"), sealed(text(256))
	files := []api.File{file("w1", a, ""), file("w1", a[:3], a[3:]+"?"), file("w1", full[:200], full[200:]), file("w2", "", a), file("w2", "", a+"tor"), file("w3", "", ""),
		file("w.new", "o", "ld"), file("", a, "x"), file("w999999", "", "?"), file("w1000000", full, "?"), file("w1000001", a, "?")}
	l := [][]api.File{nil}
	for _, f := range files {
		l = append(l, []api.File{f})
		for _, g := range files {
			l = append(l, []api.File{f, g})
			for _, h := range files {
				l = append(l, []api.File{f, g, h})
			}
		}
	}
	return l
}

// steps are such of all kinds, of numbers at and about the edges.
func steps() []step {
	segs := []int{math.MinInt, -1, 0, 1, 2, 3, 999999, 1000000, 1000001, math.MaxInt}
	var l []step
	for _, seg := range segs {
		l = append(l, step{kind: toSync, seg: seg}, step{kind: toRecover, seg: seg}, step{seg: seg, rec: "b"})
	}
	l = append(l, step{seg: 1}, step{seg: 1, rec: text(2049)}, step{seg: 1000000, rec: text(2049)}, step{seg: 0, rec: text(2049)})
	for _, from := range []int{math.MinInt, 0, 1, 2, 1000000} {
		for _, to := range []int{math.MinInt, 1, 2, 3, 1000000, 1000001, math.MaxInt} {
			l = append(l, step{kind: toDrop, seg: from, to: to})
		}
	}
	return l
}

// TestTold: every step's answer is the told one, for all small disks with numbers at and about the edges.
func TestTold(t *testing.T) {
	all := steps()
	for _, l := range lists() {
		for _, room := range []int{0, 10, 11, math.MaxInt} {
			for _, fuse := range []int{-2, 0, 1, 2, 12} {
				d := api.Disk{Files: l, Room: room, Fuse: fuse}
				for _, x := range all {
					if a := told(d, x); !do(d, x).same(a) {
						want(t, d, x, a)
					}
				}
			}
		}
		for _, x := range all {
			wantTold(t, drive(30, l...), x)
			wantTold(t, off(drive(30, l...)), x)
		}
		if t.Failed() {
			return
		}
	}
}

// keeping are keeps by lot: of each file none, some or all of what waits.
func keeping(r *rand.Rand) []int {
	l := make([]int, r.Intn(70))
	for i := range l {
		switch r.Intn(4) {
		case 0:
			l[i] = math.MaxInt
		case 1:
			l[i] = 0
		default:
			l[i] = r.Intn(60)
		}
	}
	return l
}

// journal is a log as it ought to be: what was put into the segments from `from` on, and how much of that is safe.
type journal struct {
	d         api.Disk
	from, seg int
	put       []string
	segs      []int // into which segment each was put
	safe      int
}

// putOne puts a record by lot, now and then with a fuse.
func (j *journal) putOne(t *testing.T, r *rand.Rand) {
	rec := fmt.Sprint(r.Intn(1000000), text(r.Intn(60)))
	if r.Intn(60) == 0 {
		rec = text(2048 - r.Intn(3))
	}
	if r.Intn(25) == 0 {
		j.d = disk.Arm(j.d, r.Intn(80))
	}
	d, seg, e := Put(j.d, j.seg, rec)
	if seg != j.seg { // the one ahead of it was synced
		j.safe = len(j.put)
	}
	j.d, j.seg = d, seg
	if e == api.OK {
		j.put, j.segs = append(j.put, rec), append(j.segs, seg)
	} else if e != api.ErrDead {
		t.Fatalf("Put: %d of %s", e, show(d))
	}
}

// syncNow makes all that was put safe.
func (j *journal) syncNow(t *testing.T) {
	d, e := Sync(j.d, j.seg)
	j.d = d
	if e == api.OK {
		j.safe = len(j.put)
	} else if e != api.ErrDead {
		t.Fatalf("Sync: %d of %s", e, show(d))
	}
}

// dropSome drops segments from the first one on, now and then all but the last one.
func (j *journal) dropSome(t *testing.T, r *rand.Rand) {
	to := j.from + r.Intn(j.seg-j.from+1)
	d, e := Drop(j.d, j.from, to)
	if e == api.ErrDead { // where it ended, the log begins
		for j.from < to && !has(d, Name(j.from)) {
			j.from++
		}
	} else if e == api.OK {
		j.from = to
	}
	j.d = d
	gone := 0
	for gone < len(j.put) && j.segs[gone] < j.from {
		gone++
	}
	j.put, j.segs, j.safe = j.put[gone:], j.segs[gone:], max(j.safe-gone, 0)
}

// crash loses the power, keeps some of what waits, and recovers; a recovery may lose the power, too.
func (j *journal) crash(t *testing.T, r *rand.Rand) {
	d := disk.Crash(j.d, keeping(r))
	for range r.Intn(4) {
		d1, l, last, e := Recover(disk.Arm(d, r.Intn(90)), j.from)
		if e != api.OK && (e != api.ErrDead || l != nil || last != j.from) {
			t.Fatalf("Recover with a fuse: %q, %d, %d", l, last, e)
		}
		d = disk.Crash(d1, keeping(r))
	}
	d1, l, last, e := Recover(d, j.from)
	if e != api.OK || len(l) < j.safe || len(l) > len(j.put) || !slices.Equal(l, j.put[:len(l)]) || last > j.seg {
		t.Fatalf("Recover of %s: %d records, %d, %d; put were %d, safe %d, up to %d", show(d), len(l), last, e, len(j.put), j.safe, j.seg)
	}
	for range 2 { // it is recovered again as it is, behind a crash that keeps nothing, too
		d2, l2, last2, e := Recover(d1, j.from)
		if e != api.OK || !disk.Same(d1, d2) || !slices.Equal(l, l2) || last2 != last {
			t.Fatalf("Recover again: %d records, %d, %d of %s", len(l2), last2, e, show(d2))
		}
		d1 = disk.Crash(d2, nil)
	}
	j.d, j.put, j.segs, j.safe, j.seg = d1, j.put[:len(l)], j.segs[:len(l)], len(l), last
}

// TestP4_5: what was put and synced is recovered, in order, behind every crash; what is recovered is a beginning of what was put, and is recovered again as it is.
func TestP4_5(t *testing.T) {
	r := rand.New(rand.NewSource(4))
	for range 150 {
		d, _ := disk.New(200000)
		from := 1 + r.Intn(50)
		j := &journal{d: d, from: from, seg: from}
		for range 200 {
			switch n := r.Intn(40); {
			case j.d.Off || n == 0:
				j.crash(t, r)
			case n < 8:
				j.syncNow(t)
			case n == 8, j.seg-j.from > 50:
				j.dropSome(t, r)
			default:
				j.putOne(t, r)
			}
		}
		j.syncNow(t)
		j.crash(t, r)
	}
}

// TestP4_5Crash: every crash of a small log: what it keeps of what waits is recovered, as far as records are whole.
func TestP4_5Crash(t *testing.T) {
	for synced := range 4 {
		d, _ := disk.New(5000)
		recs := []string{"one", text(300), "three", "", "five"}
		seg := 1
		for i, rec := range recs {
			if d, seg, _ = Put(d, seg, rec); i < synced {
				d, _ = Sync(d, seg)
			}
		}
		if seg != 2 {
			t.Fatal(seg)
		}
		rest := sealed(recs[2:]...) // the first segment was synced ahead of the second one
		safe := len(d.Files[1].Safe)
		for keep := range len(rest) + 1 {
			whole, _ := toldScan(rest[:max(keep, safe)])
			k, l, last, e := Recover(disk.Crash(d, []int{0, keep - safe}), 1)
			if e != api.OK || !slices.Equal(l, recs[:2+len(whole)]) || last != 2 {
				t.Errorf("%d synced, %d kept: %.40q, %d, %d", synced, keep, l, last, e)
			}
			want(t, k, step{kind: toRecover, seg: 1}, answer{d: k, recs: l, seg: 2})
		}
	}
}

// TestP4_5Torn: of a beginning of a record's bytes nothing is scanned.
func TestP4_5Torn(t *testing.T) {
	for _, l := range rows() {
		for _, rec := range l {
			s := sealed(rec)
			for n := range len(s) {
				wantScan(t, s[:n], nil, 0)
			}
			wantScan(t, s, []string{rec}, len(s))
		}
	}
}

// TestExample: the chapter's.
func TestExample(t *testing.T) {
	d, _ := disk.New(10000)
	d, seg, _ := Put(d, 1, "a")
	d, _ = Sync(d, seg)
	d, seg, e := Put(d, seg, "b")
	if seg != 1 || e != api.OK {
		t.Error(seg, e)
	}
	if s, _ := disk.Read(d, "w1"); s != "1;a6422626;1;b6488163;" {
		t.Errorf("%q", s)
	}
	_, l, last, e := Recover(disk.Crash(d, []int{3}), 1)
	if !slices.Equal(l, []string{"a"}) || last != 1 || e != api.OK {
		t.Errorf("%q, %d, %d", l, last, e)
	}
}
