package session

import (
	"math"
	"math/bits"
	"math/rand"
	"slices"
	"testing"

	"stanchion/alarm"
	"stanchion/api"
)

// toldAt is the place of the session id, as its words tell it; -1, if there is none.
func toldAt(s api.Sessions, id int) int {
	for i := range s.L {
		if s.L[i].Id == id {
			return i
		}
	}
	return -1
}

// toldFind is Find, as its words tell it.
func toldFind(s api.Sessions, id int) (api.Session, bool) {
	if at := toldAt(s, id); at >= 0 {
		return s.L[at], true
	}
	return api.Session{}, false
}

// toldOf is Of, as its words tell it.
func toldOf(s api.Sessions, txn int) (api.Session, bool) {
	for _, x := range s.L {
		if txn != 0 && x.Txn == txn {
			return x, true
		}
	}
	return api.Session{}, false
}

// toldRenewed is s with a lease renewed, as its words tell it.
func toldRenewed(s api.Sessions, id int) api.Sessions {
	until, above := bits.Add64(s.Now, 20, 0)
	if above > 0 {
		until = 1<<64 - 1
	}
	return with(s, s.L, alarm.Put(alarm.Drop(s.H, id), due(until, id)))
}

// toldOpen is Open, as its words tell it.
func toldOpen(s api.Sessions, conn int) (api.Sessions, int, api.Errno) {
	if len(s.L) >= 6 {
		return s, 0, 11
	}
	if s.Next > 1<<30 {
		return s, 0, 4
	}
	k := toldRenewed(with(s, slices.Concat(s.L, list(api.Session{Id: s.Next, Conn: conn})), s.H), s.Next)
	k.Next = s.Next + 1
	return k, s.Next, 0
}

// toldChange is s with the session id changed, as the words of P17.4 tell it.
func toldChange(s api.Sessions, id int, change func(x api.Session) api.Session) (api.Sessions, api.Errno) {
	at := toldAt(s, id)
	if at < 0 {
		return s, 7
	}
	return with(s, slices.Concat(s.L[:at], list(change(s.L[at])), s.L[at+1:]), s.H), 0
}

// toldTake is Take, as its words tell it.
func toldTake(s api.Sessions, id, conn int) (api.Sessions, api.Errno) {
	if x, is := toldFind(s, id); is && x.Seq >= 1<<30 {
		return s, 4
	}
	k, e := toldChange(s, id, func(x api.Session) api.Session {
		return api.Session{Id: x.Id, Seq: x.Seq + 1, Busy: true, Txn: x.Txn, Conn: conn}
	})
	if e == 0 {
		k = toldRenewed(k, id)
	}
	return k, e
}

// toldWithout are the sessions of no other Id.
func toldWithout(l []api.Session, id int) []api.Session {
	var k []api.Session
	for _, x := range l {
		if x.Id != id {
			k = append(k, x)
		}
	}
	return k
}

// toldRenew and toldClose are Renew and Close, as their words tell them.
func toldRenew(s api.Sessions, id int) (api.Sessions, api.Errno) {
	if toldAt(s, id) < 0 {
		return s, 7
	}
	return toldRenewed(s, id), 0
}

func toldClose(s api.Sessions, id int) (api.Sessions, api.Errno) {
	if toldAt(s, id) < 0 {
		return s, 7
	}
	return with(s, toldWithout(s.L, id), alarm.Drop(s.H, id)), 0
}

// toldJudge is Judge, as its words tell it: each number that is in turn is held against q's.
func toldJudge(s api.Sessions, q api.Req) (string, api.Errno) {
	x, is := toldFind(s, q.Sess)
	switch {
	case s.Epoch != q.Epoch:
		return "", 14
	case !is:
		return "", 7
	case q.Seq < 1:
		return "", 15
	}
	if q.Seq == x.Seq {
		if x.Busy {
			return "", 12
		}
		return x.Last, 8
	}
	if x.Seq < math.MaxInt && q.Seq == x.Seq+1 {
		if x.Busy {
			return "", 11
		}
		return "", 0
	}
	return "", 15
}

// toldTick is Tick, as its words tell it.
func toldTick(s api.Sessions, now uint64) (api.Sessions, []api.Session) {
	if now > s.Now {
		s.Now = now
	}
	h, ids := alarm.Due(s.H, s.Now)
	s.H = h
	var gone []api.Session
	for _, id := range ids {
		if x, is := toldFind(s, id); is {
			gone = append(gone, x)
			s.L = toldWithout(s.L, id)
		}
	}
	return s, gone
}

// wantTold: each call in s, of an Id, answers what the words tell.
func wantTold(t *testing.T, s api.Sessions, id int) {
	t.Helper()
	x, is := toldFind(s, id)
	wantFind(t, s, id, x, is)
	x, is = toldOf(s, id)
	wantOf(t, s, id, x, is)
	k, n, e := toldOpen(s, id)
	wantOpen(t, s, id, k, n, e)
	k, e = toldRenew(s, id)
	wantChange(t, s, renew(id), k, e)
	k, e = toldClose(s, id)
	wantChange(t, s, shut(id), k, e)
	k, e = toldTake(s, id, 5)
	wantChange(t, s, take(id, 5), k, e)
	k, e = toldChange(s, id, func(x api.Session) api.Session { return bound(idle(x.Id, x.Seq, "l"), x.Txn, x.Conn) })
	wantChange(t, s, answer(id, "l"), k, e)
	k, e = toldChange(s, id, func(x api.Session) api.Session { return bound(x, 6, x.Conn) })
	wantChange(t, s, bind(id, 6), k, e)
	for _, seq := range []int{-1, 0, 1, 2, 3, 1 << 30, 1<<30 + 1, top, bottom} {
		for _, q := range []api.Req{req(id, seq), {Epoch: 8, Sess: id, Seq: seq}} {
			last, e := toldJudge(s, q)
			wantJudge(t, s, q, last, e)
		}
	}
}

// wantToldTick: Tick at a time answers what the words tell.
func wantToldTick(t *testing.T, s api.Sessions, now uint64) {
	t.Helper()
	k, gone := toldTick(s, now)
	wantTick(t, s, now, k, gone)
}

// rows calls f with all rows of at most n out of some.
func rows[T any](out []T, n int, f func(l []T)) {
	l := make([]T, 0, n)
	var longer func()
	longer = func() {
		f(slices.Clone(l))
		if len(l) == n {
			return
		}
		for _, x := range out {
			l = append(l, x)
			longer()
			l = l[:len(l)-1]
		}
	}
	longer()
}

// few are sessions of two Ids, of few numbers.
func few() []api.Session {
	return list(idle(1, 0, ""), bound(idle(1, 1, "x"), 2, 3), busy(1, 2), bound(idle(2, 1<<30, "y"), 1, 1), bound(busy(2, 1), 2, 2))
}

// TestToldSmall: all rows of few sessions, with all rows of few alarms, heaps and others.
func TestToldSmall(t *testing.T) {
	rows(few(), 3, func(l []api.Session) {
		rows(dues(due(1, 1), due(3, 2), due(2, 3)), 2, func(h []api.Alarm) {
			for _, s := range []api.Sessions{some(l, h, 3, 0), some(l, h, 2, math.MaxUint64-19)} {
				for id := range 4 {
					wantTold(t, s, id)
					wantToldTick(t, s, uint64(id))
				}
			}
		})
	})
}

// TestToldTicks: all rows of alarms, of sessions of which one stands there twice.
func TestToldTicks(t *testing.T) {
	x, y, z := idle(1, 1, "x"), busy(2, 3), bound(idle(1, 2, "z"), 3, 3)
	for _, l := range [][]api.Session{nil, list(x), list(x, y), list(y, x), list(x, y, z), list(z, y, y, x)} {
		rows(dues(due(1, 1), due(2, 1), due(1, 2), due(3, 2), due(2, 3)), 5, func(h []api.Alarm) {
			for now := range uint64(4) {
				wantToldTick(t, some(l, h, 4, now%2), now)
			}
		})
	}
}

// TestToldMany: rows about as long as may be, and longer.
func TestToldMany(t *testing.T) {
	for n := range 9 {
		for _, next := range []int{bottom, 0, 3, 1<<30 - 1, 1 << 30, 1<<30 + 1, top} {
			s := full(n, next)
			for _, id := range []int{0, 1, n, n + 1, next} {
				wantTold(t, s, id)
				wantToldTick(t, s, uint64(id))
			}
		}
	}
}

// anySession is any session: of a small Id and number, mostly.
func anySession(r *rand.Rand) api.Session {
	x := api.Session{Id: r.Intn(5), Seq: r.Intn(4) - 1, Busy: r.Intn(2) == 0, Last: []string{"", "x", "yy"}[r.Intn(3)], Txn: r.Intn(4), Conn: r.Intn(3)}
	if r.Intn(5) == 0 {
		x.Seq = []int{1<<30 - 1, 1 << 30, 1<<30 + 1, top, bottom}[r.Intn(5)]
	}
	return x
}

// TestToldWild: any sessions, any alarms, any time.
func TestToldWild(t *testing.T) {
	r := rand.New(rand.NewSource(17))
	times := []uint64{0, 3, 1 << 63, math.MaxUint64 - 21, math.MaxUint64 - 20, math.MaxUint64 - 19, math.MaxUint64}
	for range 6000 {
		s := some(nil, nil, r.Intn(6), times[r.Intn(len(times))])
		for range r.Intn(8) {
			s.L = append(s.L, anySession(r))
		}
		for range r.Intn(8) {
			s.H = append(s.H, due(times[r.Intn(len(times))], r.Intn(6)))
		}
		wantTold(t, s, r.Intn(6))
		wantToldTick(t, s, times[r.Intn(len(times))])
	}
}

// asked is a request that was taken: of which session, with which number.
type asked struct{ id, seq int }

// word is what a test remembers of a session: its last number that was taken, whether that is answered, and how; when it was renewed.
type word struct {
	seq  int
	open bool
	last string
	said uint64
}

// desk are sessions in use, with all that a client could remember of them.
type desk struct {
	s     api.Sessions
	words map[int]word
	taken map[asked]bool
	steps map[string]int
}

// newDesk is one without sessions.
func newDesk(now uint64) *desk {
	s := New(7)
	s.Now = now
	return &desk{s, map[int]word{}, map[asked]bool{}, map[string]int{}}
}

// open opens a session, if there is room.
func (d *desk) open(t *testing.T) {
	t.Helper()
	s, id, e := Open(d.s, 1)
	if len(d.words) == api.MaxSessions {
		if e != api.ErrBusy {
			t.Fatalf("Open of %s: %d", brief(d.s), e)
		}
		return
	}
	if _, is := d.words[id]; e != api.OK || is || d.taken[asked{id, 0}] {
		t.Fatalf("Open of %s: %d, %d", brief(d.s), id, e)
	}
	d.s, d.words[id], d.taken[asked{id, 0}] = s, word{said: s.Now}, true
	d.steps["open"]++
}

// ask hands a request to the desk, as a server does: what is OK is taken.
func (d *desk) ask(t *testing.T, id, seq int) {
	t.Helper()
	w, is := d.words[id]
	last, e := Judge(d.s, req(id, seq))
	want, wantE := "", api.ErrSeq
	switch {
	case !is:
		wantE = api.ErrNone
	case seq == w.seq && seq > 0 && w.open:
		wantE = api.ErrWait
	case seq == w.seq && seq > 0:
		want, wantE = w.last, api.ErrThere
	case seq == w.seq+1 && w.open:
		wantE = api.ErrBusy
	case seq == w.seq+1:
		wantE = api.OK
	}
	if last != want || e != wantE {
		t.Fatalf("request %d of %d in %s: %q, %d; want %q, %d", seq, id, brief(d.s), last, e, want, wantE)
	}
	if e == api.OK {
		d.take(t, id, seq)
	}
}

// take takes a request that was judged to be OK: none was so ahead.
func (d *desk) take(t *testing.T, id, seq int) {
	t.Helper()
	s, e := Take(d.s, id, 2)
	if e != api.OK || d.taken[asked{id, seq}] {
		t.Fatalf("Take of %d in %s: %d, %t", id, brief(d.s), e, d.taken[asked{id, seq}])
	}
	d.s, d.words[id], d.taken[asked{id, seq}] = s, word{seq: seq, open: true, said: s.Now}, true
	d.steps["take"]++
}

// answer answers a session's last request, if that is open.
func (d *desk) answer(t *testing.T, id int, last string) {
	t.Helper()
	w := d.words[id]
	if !w.open {
		return
	}
	s, e := Answer(d.s, id, last)
	if e != api.OK {
		t.Fatalf("Answer of %d in %s: %d", id, brief(d.s), e)
	}
	w.open, w.last = false, last
	d.s, d.words[id] = s, w
	d.steps["answer"]++
}

// renew renews a session, shut closes it: both by what is remembered.
func (d *desk) renew(t *testing.T, id int) {
	t.Helper()
	w, is := d.words[id]
	s, e := Renew(d.s, id)
	if is != (e == api.OK) {
		t.Fatalf("Renew of %d in %s: %d", id, brief(d.s), e)
	}
	if is {
		w.said = s.Now
		d.words[id] = w
		d.steps["renew"]++
	}
	d.s = s
}

func (d *desk) shut(t *testing.T, id int) {
	t.Helper()
	_, is := d.words[id]
	s, e := Close(d.s, id)
	if is != (e == api.OK) {
		t.Fatalf("Close of %d in %s: %d", id, brief(d.s), e)
	}
	if is {
		delete(d.words, id)
		d.steps["close"]++
	}
	d.s = s
}

// bind binds a session to a transaction of its own.
func (d *desk) bind(t *testing.T, id int) {
	t.Helper()
	_, is := d.words[id]
	s, e := Bind(d.s, id, 100+id)
	if is != (e == api.OK) {
		t.Fatalf("Bind of %d in %s: %d", id, brief(d.s), e)
	}
	if x, there := Of(s, 100+id); there != is || is && x.Id != id {
		t.Fatalf("Of %d in %s: %s, %t", 100+id, brief(s), one(x), there)
	}
	d.s = s
}

// tick lets some time go by: just those who said nothing for 20 ticks are gone, who said so first first.
func (d *desk) tick(t *testing.T, step uint64) {
	t.Helper()
	now := d.s.Now + step
	var want []int
	for id, w := range d.words {
		if w.said+20 <= now {
			want = append(want, id)
		}
	}
	slices.SortFunc(want, func(a, b int) int {
		if x, y := d.words[a].said, d.words[b].said; x != y {
			return int(int64(x - y))
		}
		return a - b
	})
	s, gone := Tick(d.s, now)
	var got []int
	for _, x := range gone {
		got = append(got, x.Id)
		if w := d.words[x.Id]; x.Seq != w.seq || x.Busy != w.open || x.Last != w.last {
			t.Fatalf("gone is %s, which was %+v", one(x), w)
		}
		delete(d.words, x.Id)
		d.steps["gone"]++
	}
	if !slices.Equal(got, want) || s.Now != now {
		t.Fatalf("Tick %d of %s: %d; want %d", now, brief(d.s), got, want)
	}
	d.s = s
}

// wantWhole: there are just the sessions that are remembered, each judged as it was answered, each with one alarm, in a heap.
func (d *desk) wantWhole(t *testing.T) {
	t.Helper()
	if len(d.s.L) != len(d.words) || len(d.s.H) != len(d.words) || !alarm.Heap(d.s.H) {
		t.Fatalf("%d sessions are remembered of %s", len(d.words), brief(d.s))
	}
	for _, a := range d.s.H {
		if w, is := d.words[a.Id]; !is || a.At != w.said+20 {
			t.Fatalf("%d is due at %d in %s", a.Id, a.At, brief(d.s))
		}
	}
	for id, w := range d.words {
		last, e := Judge(d.s, req(id, w.seq))
		switch {
		case w.open && (last != "" || e != api.ErrWait):
			fallthrough
		case !w.open && w.seq > 0 && (last != w.last || e != api.ErrThere):
			t.Fatalf("%+v is judged %q, %d in %s", w, last, e, brief(d.s))
		}
		for seq := range w.seq {
			if last, e := Judge(d.s, req(id, seq)); last != "" || e != api.ErrSeq {
				t.Fatalf("%d of %+v is judged %q, %d in %s", seq, w, last, e, brief(d.s))
			}
		}
	}
}

// step does one of the small steps.
func (d *desk) step(t *testing.T, which, id int) {
	t.Helper()
	switch which {
	case 0:
		d.open(t)
	case 1:
		d.ask(t, id, d.words[id].seq+1)
	case 2:
		d.ask(t, id, d.words[id].seq)
	case 3:
		d.answer(t, id, string(rune('a'+d.words[id].seq)))
	case 4:
		d.renew(t, id)
	case 5:
		d.tick(t, 12)
	case 6:
		d.tick(t, 1)
	case 7:
		d.shut(t, id)
	case 8:
		d.ask(t, id, d.words[id].seq+2)
	case 9:
		d.bind(t, id)
	}
	d.wantWhole(t)
}

// TestP17_6Short: all short ways to use a session or two.
func TestP17_6Short(t *testing.T) {
	type deed struct{ which, id int }
	deeds := []deed{{0, 0}, {1, 1}, {2, 1}, {3, 1}, {4, 1}, {5, 0}, {7, 1}, {1, 2}}
	seen := map[string]int{}
	rows(deeds, 6, func(l []deed) {
		d := newDesk(0)
		for _, x := range l {
			d.step(t, x.which, x.id)
		}
		d.count(seen)
	})
	wantSteps(t, seen)
}

// count adds a desk's steps to those of others.
func (d *desk) count(seen map[string]int) {
	for what, n := range d.steps {
		seen[what] += n
	}
}

// wantSteps: each step was gone often.
func wantSteps(t *testing.T, seen map[string]int) {
	t.Helper()
	for _, what := range []string{"open", "take", "answer", "renew", "gone", "close"} {
		if seen[what] < 1000 {
			t.Errorf("only %d times: %s", seen[what], what)
		}
	}
}

// TestP17_6Walk: long ways to use all sessions, from different times on.
func TestP17_6Walk(t *testing.T) {
	r := rand.New(rand.NewSource(176))
	seen := map[string]int{}
	for i := range 150 {
		d := newDesk([]uint64{0, 1 << 40, math.MaxInt64 - 100, math.MaxUint64 - 20000}[i%4])
		for range 400 {
			d.step(t, []int{0, 1, 1, 1, 2, 3, 3, 3, 4, 5, 6, 6, 7, 8, 9}[r.Intn(15)], d.anyId(r))
		}
		d.count(seen)
	}
	wantSteps(t, seen)
}

// anyId is mostly that of a session that is there.
func (d *desk) anyId(r *rand.Rand) int {
	if n := len(d.s.L); n > 0 && r.Intn(8) > 0 {
		return d.s.L[r.Intn(n)].Id
	}
	return r.Intn(d.s.Next + 1)
}

// TestP17_6Lease: tick by tick, a session that was opened, renewed, or asked something at a time lives to just 20 ticks behind.
func TestP17_6Lease(t *testing.T) {
	for at := range uint64(20) {
		for _, c := range []change{renew(1), take(1, 0)} {
			s, _, _ := Open(New(7), 0)
			s, _ = Tick(s, at)
			s, _ = c.do(s)
			// What else is done with it doesn't renew it.
			s, _ = Answer(s, 1, "x")
			s, _ = Bind(s, 1, 3)
			wantLease(t, s, at+20)
		}
	}
	s, _, _ := Open(New(7), 0)
	wantLease(t, s, 20)
}

// wantLease: tick by tick, the one session there is lives, up to a time.
func wantLease(t *testing.T, s api.Sessions, until uint64) {
	t.Helper()
	for s.Now+1 < until {
		k, gone := Tick(s, s.Now+1)
		if len(gone) > 0 {
			t.Fatalf("gone at %d: %s; it lives to %d", s.Now+1, each(gone), until)
		}
		s = k
	}
	for _, late := range []uint64{0, 1, 1000} {
		wantTick(t, s, until+late, api.Sessions{Epoch: 7, Next: 2, Now: until + late}, s.L)
	}
}

// TestP17_6Chain: what was handed in to one call may be handed in to another one: each goes on alone.
func TestP17_6Chain(t *testing.T) {
	s, _, _ := Open(New(7), 0)
	s, _, _ = Open(s, 1)
	was := with(s, slices.Clone(s.L), slices.Clone(s.H))
	a, _ := Take(s, 1, 5)
	b, _ := Answer(s, 1, "b")
	c, _, _ := Open(s, 2)
	d, _, _ := Open(s, 3)
	e, _ := Close(s, 2)
	k, _ := Tick(s, 20)
	if !alike(s, was) {
		t.Fatalf("%s was changed into\n%s", brief(was), brief(s))
	}
	if a.L[0] != bound(busy(1, 1), 0, 5) || b.L[0] != idle(1, 0, "b") || c.L[2] != bound(idle(3, 0, ""), 0, 2) || d.L[2] != bound(idle(3, 0, ""), 0, 3) || len(e.L) != 1 || len(k.L) != 0 {
		t.Fatal(brief(a), brief(b), brief(c), brief(d), brief(e), brief(k))
	}
}
