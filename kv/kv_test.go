package kv

import (
	"errors"
	"fmt"
	"hash/adler32"
	"math"
	"slices"
	"strconv"
	"strings"
	"testing"

	"stanchion/api"
)

// text is one of n bytes that aren't all alike, so that a wrong piece of it shows.
func text(n int) string {
	b := make([]byte, n)
	for i := range b {
		b[i] = byte('a' + (i+i/26)%26)
	}
	return string(b)
}

// sealed are texts with their sums, one behind the other, as chapter 2 tells it.
func sealed(l ...string) string {
	s := ""
	for _, t := range l {
		s += fmt.Sprintf("%d;%s%d;", len(t), t, adler32.Checksum([]byte(t)))
	}
	return s
}

// row is one of keys and values in turn.
func row(t ...string) []api.Pair {
	var l []api.Pair
	for i := 0; i+1 < len(t); i += 2 {
		l = append(l, api.Pair{Key: t[i], Val: t[i+1]})
	}
	return l
}

// put is a write that puts.
func put(key, val string) api.Write {
	return api.Write{Key: key, Val: val}
}

// del is a write that drops.
func del(key string) api.Write {
	return api.Write{Key: key, Del: true}
}

// does is a batch that commits.
func does(token string, w ...api.Write) api.Batch {
	return api.Batch{Kind: 1, Token: token, Writes: w}
}

// giveUp is a batch that gives a token up.
func giveUp(token string) api.Batch {
	return api.Batch{Kind: 2, Token: token}
}

// great is a batch that may be, of n bytes at the least, as far as a batch has them.
func great(token string, n int) api.Batch {
	b := does(token)
	for i := 0; len(rec(b)) < n; i++ {
		b.Writes = append(b.Writes, put(fmt.Sprintf("%02d", i)+text(20), text(64)))
	}
	return b
}

// state is one of two rows.
func state(data, toks []api.Pair) api.State {
	return api.State{Data: data, Toks: toks}
}

// file is one of three texts.
func file(name, safe, wait string) api.File {
	return api.File{Name: name, Safe: safe, Wait: wait}
}

// drive is a disk with power, without a fuse.
func drive(room int, l ...api.File) api.Disk {
	return api.Disk{Files: l, Room: room, Fuse: -1}
}

// off is d without power.
func off(d api.Disk) api.Disk {
	d.Off = true
	return d
}

// armed is d with a fuse.
func armed(d api.Disk, fuse int) api.Disk {
	d.Fuse = fuse
	return d
}

// filled is d with so many other files more that there are n.
func filled(d api.Disk, n int) api.Disk {
	l := slices.Clone(d.Files)
	for i := range n - len(l) {
		l = append(l, file(fmt.Sprint("f", i), "", ""))
	}
	d.Files = l
	return d
}

// store is one that has power.
func store(d api.Disk, from, seg, run int, s api.State) api.Store {
	return api.Store{D: d, From: from, Seg: seg, Run: run, S: s}
}

// down is x without power, as it knows.
func down(x api.Store) api.Store {
	x.Down = true
	return x
}

// rec are a batch's bytes, as chapter 7 tells them.
func rec(b api.Batch) string {
	s := fmt.Sprintf("%d;%d;%s%d;", b.Kind, len(b.Token), b.Token, len(b.Writes))
	for _, w := range b.Writes {
		deed := 0
		if w.Del {
			deed = 1
		}
		s += fmt.Sprintf("%d;%d;%s%d;%s", deed, len(w.Key), w.Key, len(w.Val), w.Val)
	}
	return s
}

// log are the bytes of a segment that has these batches.
func log(l ...api.Batch) string {
	s := ""
	for _, b := range l {
		s += sealed(rec(b))
	}
	return s
}

// runOf are the bytes of a run of a row, as chapter 6 tells them.
func runOf(l []api.Pair) string {
	s := fmt.Sprintf("%d;", len(l))
	for _, p := range l {
		s += fmt.Sprintf("%d;%s%d;%s", len(p.Key), p.Key, len(p.Val), p.Val)
	}
	return sealed(s)
}

// runText are the bytes of the run of a state.
func runText(s api.State) string {
	var l []api.Pair
	for _, p := range s.Data {
		l = append(l, api.Pair{Key: "d" + p.Key, Val: p.Val})
	}
	for _, p := range s.Toks {
		l = append(l, api.Pair{Key: "t" + p.Key, Val: p.Val})
	}
	return runOf(l)
}

// m is a manifest, that is safe.
func m(from, run int) api.File {
	return file("m", sealed(fmt.Sprintf("%d;%d;", from, run)), "")
}

// showDisk tells a disk.
func showDisk(d api.Disk) string {
	s := ""
	for _, f := range d.Files {
		s += fmt.Sprintf(" %q: %.60q %.60q (%d %d),", f.Name, f.Safe, f.Wait, len(f.Safe), len(f.Wait))
	}
	return fmt.Sprintf("{%.1500s Room %d, Fuse %d, Off %t, %d files}", s, d.Room, d.Fuse, d.Off, len(d.Files))
}

// show tells a store.
func show(x api.Store) string {
	return fmt.Sprintf("%s From %d, Seg %d, Run %d, %.200q, Down %t", showDisk(x.D), x.From, x.Seg, x.Run, x.S, x.Down)
}

// alikeStates: are two states the same?
func alikeStates(a, b api.State) bool {
	return slices.Equal(a.Data, b.Data) && slices.Equal(a.Toks, b.Toks)
}

// alike: are two stores the same, field by field?
func alike(a, b api.Store) bool {
	disks := slices.Equal(a.D.Files, b.D.Files) && a.D.Room == b.D.Room && a.D.Fuse == b.D.Fuse && a.D.Off == b.D.Off
	return disks && a.From == b.From && a.Seg == b.Seg && a.Run == b.Run && alikeStates(a.S, b.S) && a.Down == b.Down
}

// roomy is a list with spare room behind it, which is full of a thing.
func roomy[T any](l []T, spare T) []T {
	return append(append(make([]T, 0, len(l)+4), l...), spare, spare, spare, spare)[:len(l)]
}

// The things that spare room is full of.
var (
	spareFile  = file("spare", "room", "!")
	sparePair  = api.Pair{Key: "spare", Val: "room"}
	spareWrite = put("spare", "room")
)

// roomyStore is a store whose lists are roomy.
func roomyStore(x api.Store) api.Store {
	x.D.Files = roomy(x.D.Files, spareFile)
	x.S = state(roomy(x.S.Data, sparePair), roomy(x.S.Toks, sparePair))
	return x
}

// wantUntouched: a roomy list is as it was, its spare room too.
func wantUntouched[T comparable](t *testing.T, now, before []T, spare T, what string) {
	t.Helper()
	if !slices.Equal(now, before) {
		t.Errorf("%s: %.300q was handed in, and is %.300q now", what, fmt.Sprint(before), fmt.Sprint(now))
	}
	for _, v := range now[len(now) : len(now)+4] {
		if v != spare {
			t.Errorf("%s: the spare room behind %.300q was written into", what, fmt.Sprint(before))
		}
	}
}

// wantStoreUntouched: all lists of a roomy store are as they were.
func wantStoreUntouched(t *testing.T, now, before api.Store, what string) {
	t.Helper()
	wantUntouched(t, now.D.Files, before.D.Files, spareFile, what)
	wantUntouched(t, now.S.Data, before.S.Data, sparePair, what)
	wantUntouched(t, now.S.Toks, before.S.Toks, sparePair, what)
}

// spoil writes all over a list that came out, its spare room too: nobody else ought to see that.
func spoil[T any](l []T, v T) {
	l = l[:cap(l)]
	for i := range l {
		l[i] = v
	}
}

// spoilStore spoils the lists of a store, one by one: the other ones mustn't see it.
func spoilStore(t *testing.T, x api.Store, what string) {
	t.Helper()
	data, toks := slices.Clone(x.S.Data), slices.Clone(x.S.Toks)
	spoil(x.D.Files, file("other", "other", "other"))
	if !slices.Equal(x.S.Data, data) {
		t.Errorf("%s: Data shares its memory with the files", what)
	}
	spoil(x.S.Data, row("other", "other")[0])
	if !slices.Equal(x.S.Toks, toks) {
		t.Errorf("%s: Toks shares its memory with Data", what)
	}
	spoil(x.S.Toks, row("another", "another")[0])
}

// wantCall: what a call makes of a store; that nothing that is handed in is written into, spare room neither, and that what comes out has memory of its own, and stays as it is.
func wantCall(t *testing.T, what string, x api.Store, call func(api.Store) (api.Store, api.Errno), after api.Store, e api.Errno) {
	t.Helper()
	in := roomyStore(x)
	for range 2 {
		got, e1 := call(in)
		if !alike(got, after) || e1 != e {
			t.Errorf("%s of %s:\n%s, %d; want\n%s, %d", what, show(x), show(got), e1, show(after), e)
		}
		kept := roomyStore(got)
		Commit(got, does("later", put("\x00", "later"), put("a", "later"), put("\xff\xff", "later")))
		Check(got)
		Arm(got, 3)
		spoil(in.D.Files, spareFile)
		spoil(in.S.Data, sparePair)
		spoil(in.S.Toks, sparePair)
		if !alike(got, kept) {
			t.Errorf("%s of %s: a later call, or what was handed in, changed what it told", what, show(x))
		}
		copy(in.D.Files, x.D.Files)
		copy(in.S.Data, x.S.Data)
		copy(in.S.Toks, x.S.Toks)
		spoilStore(t, got, what)
		wantStoreUntouched(t, in, x, what)
	}
}

// TestP8_1RunName: the numbers that have a name, and those that haven't.
func TestP8_1RunName(t *testing.T) {
	for _, x := range []struct {
		n    int
		name string
	}{
		{math.MinInt, ""}, {-1000000, ""}, {-1, ""}, {0, ""}, {1, "r1"}, {2, "r2"}, {7, "r7"}, {9, "r9"}, {10, "r10"}, {11, "r11"}, {100, "r100"}, {123456, "r123456"},
		{999999, "r999999"}, {1000000, "r1000000"}, {1000001, ""}, {1000010, ""}, {1 << 32, ""}, {1<<32 + 1, ""}, {math.MaxInt, ""},
	} {
		for range 2 {
			if got := RunName(x.n); got != x.name {
				t.Errorf("%d: %q; want %q", x.n, got, x.name)
			}
		}
	}
	for n := 1; n <= 1000000; n++ {
		if got := RunName(n); got != "r"+strconv.Itoa(n) {
			t.Fatalf("%d: %q", n, got)
		}
	}
}

// TestP8_1Manifest: the bytes of numbers, whatever they are; those below 0 count as 0.
func TestP8_1Manifest(t *testing.T) {
	if got := Manifest(3, 4); got != "4;3;4;35913950;" {
		t.Errorf("%q", got)
	}
	numbers := []int{math.MinInt, -1000001, -256, -1, 0, 1, 2, 9, 10, 255, 256, 999999, 1000000, 1000001, 1 << 32, math.MaxInt - 1, math.MaxInt}
	for _, from := range numbers {
		for _, run := range numbers {
			want := sealed(fmt.Sprintf("%d;%d;", max(from, 0), max(run, 0)))
			for range 2 {
				if got := Manifest(from, run); got != want {
					t.Errorf("%d, %d: %q; want %q", from, run, got, want)
				}
			}
		}
	}
}

// wantTakeManifest: what is taken of bytes.
func wantTakeManifest(t *testing.T, s string, from, run int, e api.Errno) {
	t.Helper()
	for range 2 {
		if from1, run1, e1 := TakeManifest(s); from1 != from || run1 != run || e1 != e {
			t.Errorf("%.60q: %d, %d, %d; want %d, %d, %d", s, from1, run1, e1, from, run, e)
		}
	}
}

// TestP8_1TakeManifest: numbers at, beside and far from the edges, that are written as they ought to be.
func TestP8_1TakeManifest(t *testing.T) {
	segs := []uint64{0, 1, 2, 3, 9, 10, 999999, 1000000, 1000001, 1000010, 1 << 31, 1<<32 + 1, math.MaxInt64, 1 << 63, 1<<63 + 1, math.MaxUint64 - 1, math.MaxUint64}
	for _, from := range segs {
		for _, run := range segs {
			s := sealed(fmt.Sprintf("%d;%d;", from, run))
			if 1 <= from && from <= 1000000 && run <= 1000000 {
				wantTakeManifest(t, s, int(from), int(run), api.OK)
			} else {
				wantTakeManifest(t, s, 0, 0, api.ErrForm)
			}
			if from <= math.MaxInt64 && run <= math.MaxInt64 && s != Manifest(int(from), int(run)) {
				t.Errorf("%d, %d: %q", from, run, s)
			}
		}
	}
	for n := 1; n <= 1000000; n += 997 {
		wantTakeManifest(t, Manifest(n, 1000000-n), n, 1000000-n, api.OK)
	}
}

// TestP8_1TakeManifestOdd: bytes that are no manifest's: cut anywhere, with a byte more, with a byte changed, of other numbers or forms.
func TestP8_1TakeManifestOdd(t *testing.T) {
	for _, s := range []string{Manifest(1, 0), Manifest(3, 4), Manifest(12, 345), Manifest(1000000, 1000000)} {
		for i := range len(s) {
			wantTakeManifest(t, s[:i], 0, 0, api.ErrForm)
			wantTakeManifest(t, s[i+1:], 0, 0, api.ErrForm)
			wantTakeManifest(t, s[:i]+s[i+1:], 0, 0, api.ErrForm)
			for c := range 256 {
				if byte(c) != s[i] {
					wantTakeManifest(t, s[:i]+string([]byte{byte(c)})+s[i+1:], 0, 0, api.ErrForm)
				}
			}
		}
		for c := range 256 {
			more := string([]byte{byte(c)})
			wantTakeManifest(t, s+more, 0, 0, api.ErrForm)
			wantTakeManifest(t, more+s, 0, 0, api.ErrForm)
		}
		wantTakeManifest(t, s+s, 0, 0, api.ErrForm)
	}
	for _, body := range []string{
		"", ";", ";;", "1", "1;", "1;2", "12;", "1;;", ";1;", "1;2;3;", "1;2;3", "1;2; ", " 1;2;", "01;2;", "1;02;", "1;00;", "+1;2;", "-1;2;", "1;-2;", "1;+2;", "1;0x2;", "a;b;", "1,2;", "1:2:",
		"18446744073709551616;1;", "18446744073709551617;1;", "1;18446744073709551616;", "1;18446744073709551617;", "1;99999999999999999999;", "1;100000000000000000001;", "000000000000000000001;1;",
	} {
		wantTakeManifest(t, sealed(body), 0, 0, api.ErrForm)
	}
	for _, s := range []string{"", "3;4;", "3;4", sealed("3;4;") + sealed("3;4;"), sealed(sealed("3;4;")), "04;3;4;35913950;", "4;3;4;035913950;", "4;3;4;35913950", "4;3;4;35913951;", "5;3;4;35913950;", text(1 << 17), sealed(text(1 << 17))} {
		wantTakeManifest(t, s, 0, 0, api.ErrForm)
	}
}

// TestP8_1TakeManifestTold: every short text of some bytes, sealed as it ought to be.
func TestP8_1TakeManifestTold(t *testing.T) {
	n := 0
	last := []string{""}
	for range 6 {
		var longer []string
		for _, body := range last {
			a, b, _ := strings.Cut(body, ";")
			from, e := strconv.Atoi(a)
			run, e1 := strconv.Atoi(strings.TrimSuffix(b, ";"))
			if e == nil && e1 == nil && from > 0 && body == fmt.Sprintf("%d;%d;", from, run) {
				wantTakeManifest(t, sealed(body), from, run, api.OK)
				n++
			} else {
				wantTakeManifest(t, sealed(body), 0, 0, api.ErrForm)
			}
			for _, c := range "0;19a" {
				longer = append(longer, body+string(c))
			}
		}
		last = longer
	}
	if n != 36 {
		t.Errorf("%d were taken", n)
	}
}

// TestP8_1Same: stores that differ in any field, and such that don't.
func TestP8_1Same(t *testing.T) {
	x := store(drive(9, file("m", "a", "b"), file("w1", "", "c")), 1, 2, 3, state(row("a", "1"), row("t", "c")))
	all := []api.Store{
		{}, x, down(x), store(x.D, 2, 2, 3, x.S), store(x.D, 1, 1, 3, x.S), store(x.D, 1, 2, 4, x.S), store(x.D, 2, 1, 3, x.S), store(x.D, 1, 3, 2, x.S),
		store(off(x.D), 1, 2, 3, x.S), store(armed(x.D, 0), 1, 2, 3, x.S), store(drive(8, x.D.Files...), 1, 2, 3, x.S),
		store(drive(9), 1, 2, 3, x.S), store(drive(9, x.D.Files[:1]...), 1, 2, 3, x.S), store(drive(9, file("w1", "", "c"), file("m", "a", "b")), 1, 2, 3, x.S), store(drive(9, file("m", "ab", ""), file("w1", "", "c")), 1, 2, 3, x.S),
		store(x.D, 1, 2, 3, state(row("a", "1"), nil)), store(x.D, 1, 2, 3, state(nil, row("t", "c"))), store(x.D, 1, 2, 3, state(row("t", "c"), row("a", "1"))), store(x.D, 1, 2, 3, state(row("a", "2"), row("t", "c"))), store(x.D, 1, 2, 3, state(row("a", "1"), row("t", "g"))), store(x.D, 1, 2, 3, state(row("a", "1", "b", ""), row("t", "c"))), store(x.D, 1, 2, 3, state(row("a", "1"), row("t", "c", "u", "c"))),
	}
	for i, a := range all {
		for j, b := range all {
			in, in1 := roomyStore(a), roomyStore(b)
			if got := Same(in, in1); got != (i == j) {
				t.Errorf("%s and %s: %t", show(a), show(b), got)
			}
			wantStoreUntouched(t, in, a, "Same")
			wantStoreUntouched(t, in1, b, "Same")
		}
	}
	empty := api.Store{D: api.Disk{Files: []api.File{}}, S: state([]api.Pair{}, []api.Pair{})}
	if !Same(empty, api.Store{}) || !Same(api.Store{}, empty) {
		t.Error("a list without elements may be nil")
	}
}

// TestFault: what went wrong tells by its words, and by what stands within it, where the power is gone, and its number, the outermost one.
func TestFault(t *testing.T) {
	for _, x := range []struct {
		err   error
		num   api.Errno
		dead  bool
		words string
	}{
		{wrong(api.OK), api.OK, false, ""}, {unformed(api.OK), api.OK, false, ""},
		{wrong(api.ErrDead), api.ErrDead, true, "6: the power is gone"}, {wrong(api.ErrFull), api.ErrFull, false, "5: it is refused"},
		{unformed(api.ErrNone), api.ErrForm, false, "3: 7: it is refused"}, {unformed(api.ErrDead), api.ErrForm, true, "3: 6: the power is gone"},
	} {
		words := ""
		if x.err != nil {
			words = x.err.Error()
		}
		if number(x.err) != x.num || errors.Is(x.err, errDead) != x.dead || words != x.words {
			t.Errorf("%q, %d; want %q, %d", words, number(x.err), x.words, x.num)
		}
	}
}

// TestExample: the chapter's.
func TestExample(t *testing.T) {
	x, e := Open(drive(10000))
	if e != api.OK {
		t.Fatal(e)
	}
	x, e = Commit(x, does("t", put("a", "1")))
	if e != api.OK {
		t.Fatal(e)
	}
	x, e = Crash(x, nil)
	if e != api.OK || !alikeStates(x.S, state(row("a", "1"), row("t", "c"))) {
		t.Errorf("%s, %d", show(x), e)
	}
}

// TestR3: stores that come of one store, one after the other, stand apart, with an error too.
func TestR3(t *testing.T) {
	x, _ := Open(drive(5000))
	x, _ = Commit(x, does("t", put("a", "1"), put("c", "3")))
	x, _ = Check(x)
	x, _ = Commit(x, does("u", put("d", "4")))
	was := roomyStore(x)
	told := func() []api.Store {
		y1, _ := Commit(x, does("v", put("b", "x")))
		y2, _ := Commit(x, does("v", put("b", "y")))
		y3, _ := Commit(x, giveUp("v"))
		y4, _ := Check(x)
		y5, _ := Commit(x, does("u"))
		y6, _ := Commit(x, does(""))
		y7, _ := Commit(Arm(x, 5), does("v"))
		y8, _ := Check(Arm(x, 2))
		y9, _ := Crash(x, nil)
		return []api.Store{y1, y2, y3, y4, y5, y6, y7, y8, y9, Arm(x, 0), down(Arm(x, 0))}
	}
	all, again := told(), told()
	for i := range again {
		_ = append(all[i].D.Files, spareFile)
		_ = append(all[i].S.Data, sparePair)
		spoilStore(t, again[i], "one of many")
	}
	for i, y := range told() {
		if !alike(y, all[i]) {
			t.Errorf("%s; was %s", show(all[i]), show(y))
		}
	}
	if !alike(x, was) {
		t.Errorf("%s; was %s", show(x), show(was))
	}
}
