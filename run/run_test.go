package run

import (
	"bytes"
	"fmt"
	"hash/adler32"
	"math/rand"
	"slices"
	"strings"
	"testing"

	"stanchion/api"
	"stanchion/disk"
)

// text is one of n bytes that aren't all alike, so that a wrong piece of it shows.
func text(n int) string {
	b := make([]byte, n)
	for i := range b {
		b[i] = byte('a' + (i+i/26)%26)
	}
	return string(b)
}

// row is one of keys and values in turn.
func row(t ...string) []api.Pair {
	var l []api.Pair
	for i := 0; i+1 < len(t); i += 2 {
		l = append(l, api.Pair{Key: t[i], Val: t[i+1]})
	}
	return l
}

// put is a write that puts.
func put(key, val string) api.Write {
	return api.Write{Key: key, Val: val}
}

// del is a write that drops.
func del(key string) api.Write {
	return api.Write{Key: key, Del: true}
}

// file is one of three texts.
func file(name, safe, wait string) api.File {
	return api.File{Name: name, Safe: safe, Wait: wait}
}

// drive is a disk with power, without a fuse.
func drive(room int, l ...api.File) api.Disk {
	return api.Disk{Files: l, Room: room, Fuse: -1}
}

// off is d without power.
func off(d api.Disk) api.Disk {
	d.Off = true
	return d
}

// armed is d with a fuse.
func armed(d api.Disk, fuse int) api.Disk {
	d.Fuse = fuse
	return d
}

// filled is d with so many other files more that there are n.
func filled(d api.Disk, n int) api.Disk {
	l := slices.Clone(d.Files)
	for i := range n - len(l) {
		l = append(l, file(fmt.Sprint("f", i), "", ""))
	}
	d.Files = l
	return d
}

// show tells a disk.
func show(d api.Disk) string {
	s := ""
	for _, f := range d.Files {
		s += fmt.Sprintf(" %q: %.60q %.60q (%d %d),", f.Name, f.Safe, f.Wait, len(f.Safe), len(f.Wait))
	}
	return fmt.Sprintf("{%.2000s Room %d, Fuse %d, Off %t, %d files}", s, d.Room, d.Fuse, d.Off, len(d.Files))
}

// sealed is a text with its sum, as chapter 2 tells it.
func sealed(t string) string {
	return fmt.Sprintf("%d;%s%d;", len(t), t, adler32.Checksum([]byte(t)))
}

// below: is a key below another one, by their bytes?
func below(a, b string) bool {
	return bytes.Compare([]byte(a), []byte(b)) < 0
}

// roomy is a list with spare room behind it, which is full of a thing.
func roomy[T any](l []T, spare T) []T {
	return append(append(make([]T, 0, len(l)+4), l...), spare, spare, spare, spare)[:len(l)]
}

// wantUntouched: a roomy list is as it was, its spare room too.
func wantUntouched[T comparable](t *testing.T, now, before []T, spare T, what string) {
	t.Helper()
	if !slices.Equal(now, before) {
		t.Errorf("%s: %.60v was handed in, and is %.60v now", what, before, now)
	}
	for _, v := range now[len(now) : len(now)+4] {
		if v != spare {
			t.Errorf("%s: the spare room behind %.60v was written into", what, before)
		}
	}
}

// spoil writes all over a list that came out, its spare room too: nobody else ought to see that.
func spoil[T any](l []T, v T) {
	l = l[:cap(l)]
	for i := range l {
		l[i] = v
	}
}

// lot is a text by lot: short ones most often, of any bytes.
func lot(r *rand.Rand) string {
	n := r.Intn(5)
	switch r.Intn(30) {
	case 0:
		n = r.Intn(3000)
	case 1:
		n = api.MaxText - r.Intn(2)
	}
	b := make([]byte, n)
	for i := range b {
		if r.Intn(2) == 0 {
			b[i] = "0;12ab\x80\xff"[r.Intn(8)]
		} else {
			b[i] = byte(r.Intn(256))
		}
	}
	return string(b)
}

// lotRow is a row that may be, by lot.
func lotRow(r *rand.Rand) []api.Pair {
	var l []api.Pair
	for range r.Intn(12) {
		l = append(l, api.Pair{Key: lot(r), Val: lot(r)})
	}
	slices.SortFunc(l, func(a, b api.Pair) int { return strings.Compare(a.Key, b.Key) })
	return slices.CompactFunc(l, func(a, b api.Pair) bool { return a.Key == b.Key })
}

// TestP6_4Taken: what was written is taken as it was; of a beginning of its bytes nothing is, nor of more than them.
func TestP6_4Taken(t *testing.T) {
	r := rand.New(rand.NewSource(64))
	for range 600 {
		l := lotRow(r)
		s, e := Bytes(l)
		if e != api.OK {
			t.Fatalf("%.60q: %d", l, e)
		}
		wantTake(t, s, l, api.OK)
		for range 20 {
			wantTake(t, s[:r.Intn(len(s))], nil, api.ErrForm)
			wantTake(t, s+lot(r)+"!", nil, api.ErrForm)
			wantTake(t, s+s, nil, api.ErrForm)
			if i, c := r.Intn(len(s)), byte(r.Intn(256)); c != s[i] {
				wantTake(t, s[:i]+string([]byte{c})+s[i+1:], nil, api.ErrForm)
			}
			if len(s) > 10000 {
				break
			}
		}
	}
}

// shapes are disks on which the file r is, or isn't, ahead of a laying, each with a fresh one of its own, or without, and with files that have to stay as they are.
func shapes() []api.Disk {
	other, near, far := file("other", "safe", ""), file("n.other", "near", ""), file("n.n.r", "far", "")
	return []api.Disk{
		drive(1000),
		drive(1000, other),
		drive(1000, file("r", "old", ""), other, near, far),
		drive(1000, other, near, far, file("r", "old", "")),
		drive(1000, far, file("n.r", "stale", "st"), other, near, file("r", "older", "")),
		drive(1000, file("r", "older", ""), file("n.r", "", "stale"), other, near, far),
		drive(1000, file("n.r", "stale", ""), other),
		drive(1000, file("r", "", ""), file("n.r", "", "")),
	}
}

// wantLaid: behind a crash of k the file r is as it was on d, or, where it was laid (or may have been), as it was laid; all others, but the fresh one, are as they were.
func wantLaid(t *testing.T, d, k api.Disk, keeps []int, s string, e api.Errno) {
	t.Helper()
	c := disk.Crash(k, keeps)
	for _, name := range []string{"r", "other", "n.other", "n.n.r"} {
		f, is := disk.Find(d, name)
		g, is1 := disk.Find(c, name)
		asItWas := is == is1 && f.Safe == g.Safe && g.Wait == ""
		laid := name == "r" && is1 && g.Safe == s && g.Wait == ""
		if e == api.OK && name == "r" {
			asItWas = false
		}
		if !asItWas && !laid {
			t.Errorf("%s, laid %q on, told %d, kept %v: %s", show(d), s, e, keeps, show(c))
		}
	}
	again, e := Lay(c, "r", s)
	if f, is := disk.Find(disk.Crash(again, nil), "r"); e != api.OK || !is || f.Safe != s {
		t.Errorf("laid again: %s, %d", show(again), e)
	}
}

// TestP6_4Laid: a fuse that ends at each byte and each step of a laying, and a crash behind it that keeps any number of bytes.
func TestP6_4Laid(t *testing.T) {
	for _, d := range shapes() {
		for _, s := range []string{"", "a", "old", "a new one", sealed("0;")} {
			for fuse := -1; fuse < len(s)+5; fuse++ {
				k, e := Lay(armed(d, fuse), "r", s)
				if e != api.OK && (e != api.ErrDead || fuse < 0 || fuse > len(s)+1 || !k.Off) {
					t.Errorf("a fuse of %d: %d, %s", fuse, e, show(k))
				}
				for kept := -1; kept < len(s)+2; kept++ {
					wantLaid(t, d, k, slices.Repeat([]int{kept}, 9), s, e)
				}
				wantLaid(t, d, k, nil, s, e)
			}
		}
	}
}

// TestP6_4LaidWaits: of a file that waited for a sync, too, there is behind a crash what there would be without a laying, or what was laid.
func TestP6_4LaidWaits(t *testing.T) {
	d, s := drive(100, file("r", "sa", "wait"), file("n.r", "x", "y")), "laid"
	for fuse := range 9 {
		k, e := Lay(armed(d, fuse), "r", s)
		for kept := range 7 {
			keeps := slices.Repeat([]int{kept}, 3)
			was, _ := disk.Read(disk.Crash(d, keeps), "r")
			is, e1 := disk.Read(disk.Crash(k, keeps), "r")
			if e1 != api.OK || is != was && is != s || e == api.OK && is != s {
				t.Errorf("a fuse of %d, %d kept: %q, and was %q; told %d", fuse, kept, is, was, e)
			}
		}
	}
}

// keeping are keeps by lot.
func keeping(r *rand.Rand) []int {
	l := make([]int, r.Intn(9))
	for i := range l {
		l[i] = r.Intn(60) - 3
	}
	return l
}

// TestP6_4Walk: layings of several files, now and then with a fuse, and crashes: each is as the last laying had it that was told as done.
func TestP6_4Walk(t *testing.T) {
	r := rand.New(rand.NewSource(66))
	names := []string{"r", "r1", "r2", "a", strings.Repeat("z", 14)}
	for range 60 {
		d, _ := disk.New(3000)
		rows := map[string][]api.Pair{}
		for range 100 {
			name, l := names[r.Intn(len(names))], lotShort(r)
			s, _ := Bytes(l)
			if r.Intn(3) == 0 {
				d = disk.Arm(d, r.Intn(len(s)+4))
			}
			var e api.Errno
			if d, e = Lay(d, name, s); e == api.OK {
				rows[name] = l
			} else if e != api.ErrDead {
				t.Fatalf("%d of %s", e, show(d))
			}
			if d.Off || r.Intn(5) == 0 {
				d = disk.Crash(d, keeping(r))
			}
			wantRows(t, d, names, rows)
		}
	}
}

// lotShort is a short row, by lot.
func lotShort(r *rand.Rand) []api.Pair {
	var l []api.Pair
	for i := range r.Intn(5) {
		l = append(l, api.Pair{Key: fmt.Sprint(i, r.Intn(10)), Val: text(r.Intn(9))})
	}
	return l
}

// wantRows: the files of a disk have these rows, or aren't there.
func wantRows(t *testing.T, d api.Disk, names []string, rows map[string][]api.Pair) {
	t.Helper()
	for _, name := range names {
		l, there := rows[name]
		got, e := Load(d, name)
		if there != (e == api.OK) || !there && e != api.ErrNone || !slices.Equal(got, l) {
			t.Fatalf("%s has %q, %d; want %q", name, got, e, l)
		}
	}
}

// TestP6_4Folded: Fold of a Merge is the Fold of one behind the other, of all short lists, and of long ones by lot; so it is of several Merges.
func TestP6_4Folded(t *testing.T) {
	for _, older := range writes(3) {
		for _, newer := range writes(2) {
			wantFolded(t, older, newer)
		}
	}
	r := rand.New(rand.NewSource(65))
	for range 300 {
		older, newer, newest := lotWrites(r), lotWrites(r), lotWrites(r)
		wantFolded(t, older, newer)
		wantFolded(t, newer, older)
		all := toldFold(slices.Concat(older, newer, newest))
		left, right := Merge(Merge(older, newer), newest), Merge(older, Merge(newer, newest))
		if !slices.Equal(left, right) || !slices.Equal(Fold(left), all) {
			t.Errorf("%.200v and %.200v; want what makes %.200q", left, right, all)
		}
	}
}

// wantFolded: the Fold of a Merge is the Fold of one behind the other.
func wantFolded(t *testing.T, older, newer []api.Write) {
	t.Helper()
	all := slices.Concat(older, newer)
	got, got1, told := Fold(Merge(older, newer)), Fold(all), toldFold(all)
	if !slices.Equal(got, told) || !slices.Equal(got1, told) {
		t.Errorf("%.200v and %.200v: %.200q and %.200q; want %.200q", older, newer, got, got1, told)
	}
}

// TestExample: the chapter's.
func TestExample(t *testing.T) {
	s, e := Bytes(row("a", "1"))
	if s != "8;1;1;a1;1137888215;" || e != api.OK {
		t.Errorf("%q, %d", s, e)
	}
}
