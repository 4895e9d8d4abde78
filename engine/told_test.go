package engine

import (
	"bytes"
	"fmt"
	"math"
	"math/rand"
	"slices"
	"testing"

	"stanchion/api"
	"stanchion/disk"
	"stanchion/kv"
)

// world is what an engine is, reckoned word by word: its store is chapter 8's; what the locks and the views are, is told here anew.
type world struct {
	x     api.Store
	txns  []*txn
	held  []api.Hold
	queue []api.Claim
	next  int
	now   uint64
	out   []api.Done
}

// txn is a transaction: all that it wrote, in the order in which it did.
type txn struct {
	id     int
	token  string
	writes map[string]api.Write
	waits  *api.Op
}

// toldNew is the world of a store, without transactions.
func toldNew(x api.Store) *world {
	return &world{x: x, next: 1}
}

// other is a world that is the same, and can be changed.
func (w *world) other() *world {
	o := *w
	o.out, o.txns = nil, nil
	o.held, o.queue = append([]api.Hold(nil), w.held...), append([]api.Claim(nil), w.queue...)
	for _, t := range w.txns {
		c := *t
		c.writes = map[string]api.Write{}
		for k, x := range t.writes {
			c.writes[k] = x
		}
		o.txns = append(o.txns, &c)
	}
	return &o
}

// rising are the writes in the order of their keys.
func (t *txn) rising() []api.Write {
	var l []api.Write
	for _, x := range t.writes {
		l = append(l, x)
	}
	slices.SortFunc(l, func(a, b api.Write) int { return bytes.Compare([]byte(a.Key), []byte(b.Key)) })
	return l
}

// engine is the world as one.
func (w *world) engine() api.Engine {
	e := api.Engine{X: w.x, L: api.Locks{Held: w.held, Queue: w.queue}, Next: w.next, Now: w.now}
	for _, t := range w.txns {
		x := api.Txn{Id: t.id, Token: t.token, Writes: t.rising()}
		if t.waits != nil {
			x.Waits, x.Op = true, *t.waits
		}
		e.T = append(e.T, x)
	}
	return e
}

// find is the transaction of a number.
func (w *world) find(id int) *txn {
	for _, t := range w.txns {
		if t.id == id {
			return t
		}
	}
	return nil
}

// toldIn: is a key in a span?
func toldIn(v api.Want, key string) bool {
	return bytes.Compare([]byte(key), []byte(v.Lo)) >= 0 && (v.Hi == "" || bytes.Compare([]byte(key), []byte(v.Hi)) < 0)
}

// clash: do two spans exclude each other? If they have a key of both, the greater beginning is one.
func clash(a, b api.Want) bool {
	key := a.Lo
	if bytes.Compare([]byte(b.Lo), []byte(key)) > 0 {
		key = b.Lo
	}
	return toldIn(a, key) && toldIn(b, key) && (a.Mode == 2 || b.Mode == 2)
}

// covers: is all of b in a, and may who has a do what b asks for?
func covers(a, b api.Want) bool {
	end := a.Hi == "" || b.Hi != "" && bytes.Compare([]byte(b.Hi), []byte(a.Hi)) <= 0
	return toldIn(a, b.Lo) && end && (a.Mode == 2 || b.Mode == 1)
}

// blockers are those that stand in the way of a span, among the holders and the first n claims.
func (w *world) blockers(id int, v api.Want, n int) map[int]bool {
	in := map[int]bool{}
	for _, h := range w.held {
		if h.Txn != id && clash(h.W, v) {
			in[h.Txn] = true
		}
	}
	for _, c := range w.queue[:n] {
		if c.Txn != id && clash(c.W, v) {
			in[c.Txn] = true
		}
	}
	return in
}

// victim is the greatest one of the ring in which one waits: 0, if there is none.
func (w *world) victim(id int) int {
	reach := map[[2]int]bool{}
	var all []int
	for i, c := range w.queue {
		all = append(all, c.Txn)
		for other := range w.blockers(c.Txn, c.W, i) {
			reach[[2]int{c.Txn, other}] = true
		}
	}
	for _, by := range all {
		for _, a := range all {
			for _, b := range all {
				if reach[[2]int{a, by}] && reach[[2]int{by, b}] {
					reach[[2]int{a, b}] = true
				}
			}
		}
	}
	greatest := 0
	for _, a := range all {
		if reach[[2]int{id, a}] && reach[[2]int{a, id}] {
			greatest = max(greatest, a)
		}
	}
	return greatest
}

// sees is what a key is for a transaction.
func (w *world) sees(t *txn, key string) (string, bool) {
	if x, wrote := t.writes[key]; wrote {
		return x.Val, !x.Del
	}
	for _, p := range w.x.S.Data {
		if p.Key == key {
			return p.Val, true
		}
	}
	return "", false
}

// rows is what a span is for a transaction, key by key.
func (w *world) rows(t *txn, op api.Op) []api.Pair {
	var keys []string
	for _, p := range w.x.S.Data {
		keys = append(keys, p.Key)
	}
	for k := range t.writes {
		keys = append(keys, k)
	}
	slices.SortFunc(keys, func(a, b string) int { return bytes.Compare([]byte(a), []byte(b)) })
	var l []api.Pair
	for _, k := range slices.Compact(keys) {
		if v, is := w.sees(t, k); is && toldIn(from(1, op.Lo, op.Hi), k) && len(l) < op.Most {
			l = append(l, api.Pair{Key: k, Val: v})
		}
	}
	return l
}

// sets does a write, as long as that isn't too much.
func (t *txn) sets(x api.Write) api.Errno {
	old, was := t.writes[x.Key]
	t.writes[x.Key] = x
	size := 0
	for _, y := range t.writes {
		size += len(y.Key) + len(y.Val)
	}
	if len(t.writes) <= 24 && size <= 512 {
		return api.OK
	}
	delete(t.writes, x.Key)
	if was {
		t.writes[x.Key] = old
	}
	return api.ErrBig
}

// do does an operation.
func (w *world) do(t *txn, op api.Op) {
	d := fine(t.id)
	switch op.Kind {
	case 1:
		d.Val, d.Found = w.sees(t, op.Key)
	case 2:
		d.Err = t.sets(sets(op.Key, op.Val))
	case 3:
		d.Err = t.sets(drops(op.Key))
	case 4:
		d.Rows = w.rows(t, op)
	}
	w.out = append(w.out, d)
}

// goes lets a transaction go, and others go on.
func (w *world) goes(id int) {
	var txns []*txn
	for _, t := range w.txns {
		if t.id != id {
			txns = append(txns, t)
		}
	}
	var held []api.Hold
	for _, h := range w.held {
		if h.Txn != id {
			held = append(held, h)
		}
	}
	var queue []api.Claim
	for _, c := range w.queue {
		if c.Txn != id {
			queue = append(queue, c)
		}
	}
	w.txns, w.held, w.queue = txns, held, queue
	for w.oneMore() {
	}
}

// oneMore lets the first one that can go on do so.
func (w *world) oneMore() bool {
	for i, c := range w.queue {
		if len(w.blockers(c.Txn, c.W, i)) > 0 {
			continue
		}
		w.queue = append(append([]api.Claim(nil), w.queue[:i]...), w.queue[i+1:]...)
		w.held = append(w.held, hold(c.Txn, c.W))
		t := w.find(c.Txn)
		op := *t.waits
		t.waits = nil
		w.do(t, op)
		return true
	}
	return false
}

// giveUp is the end of a transaction.
func (w *world) giveUp(id int, e api.Errno) {
	w.out = append(w.out, over(id, e))
	w.goes(id)
}

// toldMay: may an operation be?
func toldMay(op api.Op) bool {
	key := len(op.Key) >= 1 && len(op.Key) <= 32
	switch op.Kind {
	case 1, 3:
		return key
	case 2:
		return key && len(op.Val) <= 64
	case 4:
		return len(op.Lo) <= 32 && len(op.Hi) <= 32 && op.Most >= 1 && op.Most <= 16
	}
	return op.Kind == 5 || op.Kind == 6
}

// spanOf is an operation's span.
func spanOf(op api.Op) api.Want {
	switch op.Kind {
	case 1:
		return one(1, op.Key)
	case 4:
		return from(1, op.Lo, op.Hi)
	}
	return one(2, op.Key)
}

// ask asks for an operation.
func (w *world) ask(id int, op api.Op) {
	t := w.find(id)
	e := api.OK
	switch {
	case t == nil:
		e = api.ErrNone
	case t.waits != nil:
		e = api.ErrState
	case !toldMay(op):
		e = api.ErrArg
	case op.Kind == 5:
		w.x, e = kv.Commit(w.x, api.Batch{Kind: 1, Token: t.token, Writes: t.rising()})
		w.giveUp(id, e)
		return
	case op.Kind == 6:
		w.x, e = kv.Commit(w.x, api.Batch{Kind: 2, Token: t.token})
		w.giveUp(id, e)
		return
	default:
		w.claims(t, op)
		return
	}
	w.out = append(w.out, fails(id, e))
}

// claims asks for the span of an operation.
func (w *world) claims(t *txn, op api.Op) {
	v := spanOf(op)
	if v.Hi != "" && v.Hi <= v.Lo {
		w.out = append(w.out, fails(t.id, api.ErrArg))
		return
	}
	for _, h := range w.held {
		if h.Txn == t.id && covers(h.W, v) {
			w.do(t, op)
			return
		}
	}
	if len(w.blockers(t.id, v, len(w.queue))) == 0 {
		w.held = append(w.held, hold(t.id, v))
		w.do(t, op)
		return
	}
	until := w.now + 5
	if until < w.now {
		until = math.MaxUint64
	}
	w.queue = append(w.queue, claim(t.id, v, until))
	t.waits = &op
	for id := w.victim(t.id); id > 0; id = w.victim(t.id) {
		w.giveUp(id, api.ErrLock)
	}
}

// leave ends a transaction.
func (w *world) leave(id int) {
	if t := w.find(id); t != nil {
		w.x, _ = kv.Commit(w.x, api.Batch{Kind: 2, Token: t.token})
		w.goes(id)
	}
}

// tick lets time go on.
func (w *world) tick(now uint64) {
	if now > w.now {
		w.now = now
	}
	for _, c := range slices.Clone(w.queue) {
		if t := w.find(c.Txn); c.Until <= w.now && t != nil && t.waits != nil {
			w.giveUp(c.Txn, api.ErrLock)
		}
	}
}

// begin begins a transaction.
func (w *world) begin(token string) (int, api.Errno) {
	if w.x.Down {
		return 0, api.ErrDead
	}
	if token == "" || len(token) > 16 {
		return 0, api.ErrArg
	}
	for _, p := range w.x.S.Toks {
		if p.Key == token {
			return 0, api.ErrThere
		}
	}
	for _, t := range w.txns {
		if t.token == token {
			return 0, api.ErrState
		}
	}
	if len(w.txns) >= 6 {
		return 0, api.ErrBusy
	}
	if len(w.x.S.Toks) >= 64-len(w.txns) {
		return 0, api.ErrFull
	}
	w.txns = append(w.txns, &txn{id: w.next, token: token, writes: map[string]api.Write{}})
	w.next++
	return w.next - 1, api.OK
}

// wantTold: what a call answered is what was told, and so is what it made of the engine.
func wantTold(t *testing.T, what any, e api.Engine, out []api.Done, w *world) {
	t.Helper()
	if !slices.EqualFunc(out, w.out, alikeDones) {
		t.Fatalf("%+v: %+v; want %+v", what, out, w.out)
	}
	if want := w.engine(); !alike(e, want) {
		t.Fatalf("%+v: %+v; want %+v", what, e, want)
	}
	w.out = nil
}

// wantHolds: what two transactions hold never clashes, each that waits has one claim, and each claim is of one that waits, for what its operation asks for.
func wantHolds(t *testing.T, what any, e api.Engine) {
	t.Helper()
	for i, a := range e.L.Held {
		for _, b := range e.L.Held[:i] {
			if a.Txn != b.Txn && clash(a.W, b.W) {
				t.Fatalf("%+v: %+v and %+v clash", what, a, b)
			}
		}
		if _, is := Find(e, a.Txn); !is {
			t.Fatalf("%+v: nobody holds %+v", what, a)
		}
	}
	waits := 0
	for _, x := range e.T {
		n := 0
		for _, c := range e.L.Queue {
			if c.Txn == x.Id && c.W == spanOf(x.Op) {
				n++
			}
		}
		if x.Waits && n != 1 || !x.Waits && (n > 0 || x.Op != api.Op{}) {
			t.Fatalf("%+v: %+v has %d claims of %+v", what, x, n, e.L.Queue)
		}
		waits += n
	}
	if waits != len(e.L.Queue) {
		t.Fatalf("%+v: of %+v %d are of one that waits", what, e.L.Queue, waits)
	}
}

// step is a call of a script.
type step struct {
	id int
	op api.Op
}

// Kinds of steps that are no operations: a step begins a transaction, lets one leave, or lets so many ticks go by (id).
const (
	begins = 100 + iota
	leaves
	ticks
)

// behind is a step, and the engine ahead of it.
type behind struct {
	s step
	e api.Engine
}

// run takes a step, in an engine and in its world.
func run(t *testing.T, e api.Engine, w *world, s step) (api.Engine, []api.Done) {
	t.Helper()
	what := behind{s, e}
	var out []api.Done
	switch s.op.Kind {
	case begins:
		k, id, err := Begin(e, s.op.Key)
		if num, why := w.begin(s.op.Key); id != num || err != why {
			t.Fatalf("%+v: Begin(%q): %d, error %d; want %d, %d", what, s.op.Key, id, err, num, why)
		}
		e = k
	case leaves:
		e, out = Leave(e, s.id)
		w.leave(s.id)
	case ticks:
		e, out = Tick(e, e.Now+uint64(s.id))
		w.tick(w.now + uint64(s.id))
	default:
		e, out = Ask(e, s.id, s.op)
		w.ask(s.id, s.op)
	}
	wantTold(t, what, e, out, w)
	wantHolds(t, what, e)
	return e, out
}

// all runs all scripts of n steps behind an engine.
func all(t *testing.T, e api.Engine, w *world, some []step, n int) int {
	if n == 0 {
		return 1
	}
	sum := 0
	for _, s := range some {
		o := w.other()
		k, _ := run(t, e, o, s)
		sum += all(t, k, o, some, n-1)
	}
	return sum
}

// opened is an engine in which a is 1, and its world; then so many transactions.
func opened(t *testing.T, n int) (api.Engine, *world) {
	t.Helper()
	d, _ := disk.New(1 << 20)
	x, _ := kv.Open(d)
	x, _ = kv.Commit(x, api.Batch{Kind: 1, Token: "t", Writes: []api.Write{sets("a", "1")}})
	e, _ := New(x.D)
	w := toldNew(x)
	for i := range n {
		e, _ = run(t, e, w, step{op: api.Op{Kind: begins, Key: fmt.Sprint(i + 1)}})
	}
	return e, w
}

// TestP13_4ToldTwo: all scripts of four steps of two transactions.
func TestP13_4ToldTwo(t *testing.T) {
	e, w := opened(t, 2)
	some := []step{
		{1, get("a")}, {1, put("a", "2")}, {1, del("b")}, {1, scan("", "", 2)}, {1, commit}, {1, abort},
		{2, get("b")}, {2, put("a", "3")}, {2, del("a")}, {2, scan("a", "b", 1)}, {2, commit},
		{2, api.Op{Kind: leaves}}, {3, api.Op{Kind: ticks}}, {0, api.Op{Kind: begins, Key: "2"}},
	}
	if n := all(t, e, w, some, 4); n != 14*14*14*14 {
		t.Errorf("%d scripts", n)
	}
}

// TestP13_4ToldThree: all scripts of five steps of three transactions that each read or hold a key.
func TestP13_4ToldThree(t *testing.T) {
	for _, lead := range [][]step{
		{{1, get("a")}, {2, get("a")}, {3, put("b", "3")}},
		{{1, put("a", "2")}, {2, put("b", "2")}, {3, put("c", "3")}},
		{{2, scan("", "", 9)}, {1, put("a", "9")}, {3, get("a")}},
	} {
		e, w := opened(t, 3)
		for _, s := range lead {
			e, _ = run(t, e, w, s)
		}
		some := []step{{1, put("a", "4")}, {1, get("b")}, {2, put("a", "5")}, {2, get("c")}, {3, put("a", "6")}, {3, commit}, {1, abort}, {5, api.Op{Kind: ticks}}}
		all(t, e, w, some, 5)
	}
}

// part is one of some things.
func part[T any](r *rand.Rand, l ...T) T {
	return l[r.Intn(len(l))]
}

// lotOp is some operation: most of them may be.
func lotOp(r *rand.Rand) api.Op {
	key := part(r, "a", "b", "c", "d", "aa", full)
	switch r.Intn(24) {
	case 0, 1, 2, 3:
		return get(key)
	case 4, 5, 6, 7, 8:
		return put(key, part(r, "", "1", "2", long(64)))
	case 9, 10:
		return del(key)
	case 11, 12, 13:
		return scan(part(r, "", "a", "b"), part(r, "", "b", "c", "d"), 1+r.Intn(16))
	case 14:
		return part(r, misfits()...)
	case 15, 16:
		return api.Op{Kind: 1 + r.Intn(4), Key: key, Val: "v", Lo: "a", Hi: "c", Most: 2}
	case 17, 18, 19:
		return commit
	case 20:
		return abort
	}
	return get(key)
}

// lotStep is some step in an engine.
func lotStep(r *rand.Rand, e api.Engine, n int) step {
	id := r.Intn(e.Next + 1)
	if len(e.T) > 0 && r.Intn(12) > 0 {
		id = part(r, e.T...).Id
	}
	switch r.Intn(14) {
	case 0, 1, 2:
		return step{op: api.Op{Kind: begins, Key: part(r, fmt.Sprint("n", n), fmt.Sprint("n", n), fmt.Sprint("n", r.Intn(n+1)), "", long(17))}}
	case 3:
		return step{id, api.Op{Kind: leaves}}
	case 4:
		return step{r.Intn(6), api.Op{Kind: ticks}}
	}
	return step{id, lotOp(r)}
}

// TestP13_5Walk: long scripts of many transactions, on disks with room and without, with power that goes, runs and crashes; it is all told word by word, and each that is committed sees, alone, behind all that were ahead of it, just what it was answered.
func TestP13_5Walk(t *testing.T) {
	r := rand.New(rand.NewSource(135))
	n := map[string]int{}
	for i := range 400 {
		d, _ := disk.New(part(r, 1<<20, 1<<20, 3000))
		e, _ := New(d)
		w := toldNew(e.X)
		w.now = part(r, 0, 0, math.MaxUint64-uint64(r.Intn(40)))
		e, _ = Tick(e, w.now)
		a := audit{n: n, seen: map[int][]seen{}, asked: map[int]api.Op{}}
		for j := range 150 {
			was := e
			s := lotStep(r, e, j)
			if i%4 == 1 && s.op.Kind < begins && r.Intn(3) > 0 {
				s.op = put(fmt.Sprintf("%02d", r.Intn(40))+full[:r.Intn(31)], long(r.Intn(65)))
			}
			var out []api.Done
			e, out = run(t, e, w, s)
			a.note(t, was, e, s, out)
			if i%3 == 0 {
				e = fault(t, r, e, w, &a)
			}
		}
	}
	for _, what := range []string{"committed", "given up", "victim", "late", "waited", "saw", "crash", "dead", "too much"} {
		if n[what] < 50 {
			t.Errorf("%s: only %d", what, n[what])
		}
	}
}

// fault is now and then a run, a fuse or a crash.
func fault(t *testing.T, r *rand.Rand, e api.Engine, w *world, a *audit) api.Engine {
	t.Helper()
	switch r.Intn(25) {
	case 0:
		k, err := Check(e)
		x, why := kv.Check(w.x)
		if err != why {
			t.Fatalf("Check: %d; want %d", err, why)
		}
		e, w.x = k, x
	case 1:
		fuse := r.Intn(200)
		e, w.x = Arm(e, fuse), kv.Arm(w.x, fuse)
	case 2, 3:
		keeps := []int{r.Intn(60), r.Intn(60), r.Intn(60)}
		k, err := Crash(e, keeps)
		x, why := kv.Crash(w.x, keeps)
		if err != why || err != api.OK {
			t.Fatalf("Crash: %d; want %d", err, why)
		}
		e = k
		*w = world{x: x, next: w.next, now: w.now}
		a.seen, a.asked = map[int][]seen{}, map[int]api.Op{}
		a.n["crash"]++
	}
	wantTold(t, "behind a fault", e, nil, w)
	return e
}

// seen is an operation, and what it was answered.
type seen struct {
	op api.Op
	d  api.Done
}

// audit is what each transaction that lives saw, and for which operation it waits.
type audit struct {
	n     map[string]int
	seen  map[int][]seen
	asked map[int]api.Op
}

// note looks at what a step answered.
func (a *audit) note(t *testing.T, was, e api.Engine, s step, out []api.Done) {
	t.Helper()
	if s.op.Kind < begins {
		if x, is := Find(was, s.id); is && !x.Waits {
			a.asked[s.id] = s.op
		}
	}
	changed := false
	for _, d := range out {
		switch {
		case d.Err == api.ErrNone || d.Err == api.ErrState:
			continue
		case d.Over && d.Err == api.ErrLock && s.op.Kind == ticks:
			a.n["late"]++
		case d.Over && d.Err == api.ErrLock:
			a.n["victim"]++
		case d.Over && d.Err == api.ErrDead:
			a.n["dead"]++
		case d.Over && d.Err == api.OK && s.op.Kind == 5:
			a.n["committed"]++
			changed = true
			a.replay(t, was, e, d.Txn)
		case d.Over && d.Err == api.OK:
			a.n["given up"]++
		case d.Err == api.ErrBig:
			a.n["too much"]++
		case d.Err == api.OK:
			a.n["saw"]++
			if d.Txn != s.id {
				a.n["waited"]++
			}
			a.seen[d.Txn] = append(a.seen[d.Txn], seen{a.asked[d.Txn], d})
		}
		if d.Over {
			delete(a.seen, d.Txn)
		}
	}
	if !changed && !slices.Equal(was.X.S.Data, e.X.S.Data) {
		t.Fatalf("%+v changed the data: %q, and was %q", s, e.X.S.Data, was.X.S.Data)
	}
}

// replay does alone, behind all that were committed ahead of it, what a transaction did.
func (a *audit) replay(t *testing.T, was, e api.Engine, id int) {
	t.Helper()
	w := world{x: was.X}
	x := &txn{id: id, writes: map[string]api.Write{}}
	for _, s := range a.seen[id] {
		w.out = nil
		w.do(x, s.op)
		if !alikeDones(w.out[0], s.d) {
			t.Fatalf("%d saw %+v of %+v; alone it is %+v", id, s.d, s.op, w.out[0])
		}
	}
	for _, p := range e.X.S.Data {
		if v, is := w.sees(x, p.Key); !is || v != p.Val {
			t.Fatalf("%d was committed: %q is %q; and it saw %q", id, p.Key, p.Val, v)
		}
	}
	for k := range x.writes {
		if v, is := w.sees(x, k); is != slices.Contains(e.X.S.Data, api.Pair{Key: k, Val: v}) {
			t.Fatalf("%d was committed: it saw %q, %q, %t", id, k, v, is)
		}
	}
}
