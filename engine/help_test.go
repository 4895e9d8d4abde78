package engine

import (
	"fmt"
	"reflect"
	"slices"
	"strings"
	"testing"

	"stanchion/api"
	"stanchion/disk"
)

// get, put, del and scan are operations; commit and abort end a transaction.
func get(key string) api.Op {
	return api.Op{Kind: 1, Key: key}
}

func put(key, val string) api.Op {
	return api.Op{Kind: 2, Key: key, Val: val}
}

func del(key string) api.Op {
	return api.Op{Kind: 3, Key: key}
}

func scan(lo, hi string, most int) api.Op {
	return api.Op{Kind: 4, Lo: lo, Hi: hi, Most: most}
}

var (
	commit = api.Op{Kind: 5}
	abort  = api.Op{Kind: 6}
)

// fine, got, read, fails and over are answers: of a write, of a get, of a scan, of what went wrong, of a transaction's end.
func fine(txn int) api.Done {
	return api.Done{Txn: txn}
}

func got(txn int, val string) api.Done {
	return api.Done{Txn: txn, Val: val, Found: true}
}

func read(txn int, rows ...string) api.Done {
	return api.Done{Txn: txn, Rows: row(rows...)}
}

func fails(txn int, e api.Errno) api.Done {
	return api.Done{Txn: txn, Err: e}
}

func over(txn int, e api.Errno) api.Done {
	return api.Done{Txn: txn, Err: e, Over: true}
}

// dones are answers.
func dones(l ...api.Done) []api.Done {
	return l
}

// row is one of keys and values in turn.
func row(t ...string) []api.Pair {
	var l []api.Pair
	for i := 0; i+1 < len(t); i += 2 {
		l = append(l, api.Pair{Key: t[i], Val: t[i+1]})
	}
	return l
}

// sets and drops are writes.
func sets(key, val string) api.Write {
	return api.Write{Key: key, Val: val}
}

func drops(key string) api.Write {
	return api.Write{Key: key, Del: true}
}

// from is a span of a mode, from lo on, below hi; one is that of a key.
func from(mode int, lo, hi string) api.Want {
	return api.Want{Mode: mode, Lo: lo, Hi: hi}
}

func one(mode int, key string) api.Want {
	return from(mode, key, key+"\x00")
}

// hold is what a transaction holds, claim what it waits for.
func hold(txn int, w api.Want) api.Hold {
	return api.Hold{Txn: txn, W: w}
}

func claim(txn int, w api.Want, until uint64) api.Claim {
	return api.Claim{Txn: txn, W: w, Until: until}
}

// long is a text of n bytes that aren't all alike.
func long(n int) string {
	return strings.Repeat("abcdefghijklm", n/13+1)[:n]
}

// apart is a list of its own, with the same elements, and spare room behind it that is full of a thing.
func apart[T any](l []T, spare T) []T {
	return append(append(make([]T, 0, len(l)+2), l...), spare, spare)[:len(l)]
}

// roomy is an engine of which each list is its own, and has spare room.
func roomy(e api.Engine) api.Engine {
	e.X.D.Files = apart(e.X.D.Files, api.File{Name: "spare"})
	e.X.S.Data = apart(e.X.S.Data, api.Pair{Key: "spare"})
	e.X.S.Toks = apart(e.X.S.Toks, api.Pair{Key: "spare"})
	e.L.Held = apart(e.L.Held, hold(77, one(1, "spare")))
	e.L.Queue = apart(e.L.Queue, claim(77, one(1, "spare"), 7))
	e.T = apart(e.T, api.Txn{Token: "spare"})
	for i, t := range e.T {
		e.T[i].Writes = apart(t.Writes, sets("spare", ""))
	}
	return e
}

// stretched is a roomy engine with its spare room.
func stretched(e api.Engine) api.Engine {
	e.X.D.Files = e.X.D.Files[:len(e.X.D.Files)+2]
	e.X.S.Data = e.X.S.Data[:len(e.X.S.Data)+2]
	e.X.S.Toks = e.X.S.Toks[:len(e.X.S.Toks)+2]
	e.L.Held = e.L.Held[:len(e.L.Held)+2]
	e.L.Queue = e.L.Queue[:len(e.L.Queue)+2]
	n := len(e.T)
	e.T = slices.Clone(e.T[:n+2])
	for i, t := range e.T[:n] {
		e.T[i].Writes = t.Writes[:len(t.Writes)+2]
	}
	return e
}

// alike: are two transactions, or engines, the same, field by field? A list without elements is like another one.
func alikeTxns(a, b api.Txn) bool {
	same := slices.Equal(a.Writes, b.Writes)
	a.Writes, b.Writes = nil, nil
	return same && reflect.DeepEqual(a, b)
}

func alike(a, b api.Engine) bool {
	same := slices.Equal(a.X.D.Files, b.X.D.Files) && slices.Equal(a.X.S.Data, b.X.S.Data) && slices.Equal(a.X.S.Toks, b.X.S.Toks) &&
		slices.Equal(a.L.Held, b.L.Held) && slices.Equal(a.L.Queue, b.L.Queue) && slices.EqualFunc(a.T, b.T, alikeTxns)
	for _, e := range []*api.Engine{&a, &b} {
		e.X.D.Files, e.X.S, e.L, e.T = nil, api.State{}, api.Locks{}, nil
	}
	return same && reflect.DeepEqual(a, b)
}

// alikeDones: are two answers the same?
func alikeDones(a, b api.Done) bool {
	same := slices.Equal(a.Rows, b.Rows)
	a.Rows, b.Rows = nil, nil
	return same && reflect.DeepEqual(a, b)
}

// stretch is where a list lies in memory.
type stretch struct{ from, to uintptr }

// stretches are those of lists that are somewhere in a value, spare room and all.
func stretches(v reflect.Value) []stretch {
	var all []stretch
	switch v.Kind() {
	case reflect.Struct:
		for i := range v.NumField() {
			all = append(all, stretches(v.Field(i))...)
		}
	case reflect.Slice:
		if size := uintptr(v.Cap()) * v.Type().Elem().Size(); size > 0 {
			all = append(all, stretch{v.Pointer(), v.Pointer() + size})
		}
		for i := range v.Len() {
			all = append(all, stretches(v.Index(i))...)
		}
	}
	return all
}

// wantApart: no two lists of some values lie in the same memory.
func wantApart(t *testing.T, what string, all ...any) {
	t.Helper()
	var l []stretch
	for _, v := range all {
		l = append(l, stretches(reflect.ValueOf(v))...)
	}
	slices.SortFunc(l, func(a, b stretch) int { return int(a.from) - int(b.from) })
	for i := 1; i < len(l); i++ {
		if l[i].from < l[i-1].to {
			t.Errorf("%s: two lists share their memory", what)
			return
		}
	}
}

// answer is what a call answers.
type answer struct {
	e   api.Engine
	out []api.Done
	id  int
	err api.Errno
}

// call makes a call twice: what is handed in stays as it is, both answer the same, and all lists have memory of their own.
func call(t *testing.T, what string, e api.Engine, f func(e api.Engine) answer) answer {
	t.Helper()
	in := roomy(e)
	a := f(in)
	b := f(in)
	if !reflect.DeepEqual(stretched(in), stretched(roomy(e))) {
		t.Errorf("%s: what was handed in was written into: %+v; and was %+v", what, in, e)
	}
	if !alike(a.e, b.e) || !slices.EqualFunc(a.out, b.out, alikeDones) || a.id != b.id || a.err != b.err {
		t.Errorf("%s: %+v; and asked again %+v", what, a, b)
	}
	wantApart(t, what, in, a.e, a.out, b.e, b.out)
	return a
}

// game is an engine on which a test makes calls, one by one.
type game struct {
	t *testing.T
	e api.Engine
}

// on is a game on an engine, which stays as it is.
func on(t *testing.T, e api.Engine) *game {
	return &game{t, roomy(e)}
}

// fresh is a game on an empty disk, with transactions of these tokens: their numbers are 1, 2 and so on.
func fresh(t *testing.T, tokens ...string) *game {
	t.Helper()
	d, _ := disk.New(1 << 20)
	e, f := New(d)
	if f != api.OK {
		t.Fatalf("New: %d", f)
	}
	g := &game{t, e}
	for i, k := range tokens {
		g.begin(k, i+1, api.OK)
	}
	return g
}

// with is a game on an empty disk, on which a transaction put keys and values in turn; then transactions of these tokens: their numbers are 2, 3 and so on.
func with(t *testing.T, data []string, tokens ...string) *game {
	t.Helper()
	g := fresh(t, "first")
	for _, p := range row(data...) {
		g.ask(1, put(p.Key, p.Val), fine(1))
	}
	g.ask(1, commit, over(1, api.OK))
	for i, k := range tokens {
		g.begin(k, i+2, api.OK)
	}
	return g
}

// answers makes a call, looks what it answers, one by one, in order, and goes on with what it made of the engine.
func (g *game) answers(what string, f func(e api.Engine) (api.Engine, []api.Done), want []api.Done) {
	g.t.Helper()
	a := call(g.t, what, g.e, func(e api.Engine) answer {
		k, out := f(e)
		return answer{e: k, out: out}
	})
	if !slices.EqualFunc(a.out, want, alikeDones) {
		g.t.Errorf("%s: %+v; want %+v", what, a.out, want)
	}
	g.e = a.e
}

// begin, ask, leave and tick make a call, and go on with what it made of the engine.
func (g *game) begin(token string, id int, want api.Errno) {
	g.t.Helper()
	what := fmt.Sprintf("Begin(%q)", token)
	a := call(g.t, what, g.e, func(e api.Engine) answer {
		k, id, err := Begin(e, token)
		return answer{e: k, id: id, err: err}
	})
	if a.id != id || a.err != want {
		g.t.Errorf("%s: %d, error %d; want %d, %d", what, a.id, a.err, id, want)
	}
	if want != api.OK && !alike(a.e, g.e) {
		g.t.Errorf("%s: error %d, and %+v; and was %+v", what, a.err, a.e, g.e)
	}
	g.e = a.e
}

func (g *game) ask(id int, op api.Op, want ...api.Done) {
	g.t.Helper()
	g.answers(fmt.Sprintf("Ask(%d, %+v)", id, op), func(e api.Engine) (api.Engine, []api.Done) { return Ask(e, id, op) }, want)
}

func (g *game) leave(id int, want ...api.Done) {
	g.t.Helper()
	g.answers(fmt.Sprintf("Leave(%d)", id), func(e api.Engine) (api.Engine, []api.Done) { return Leave(e, id) }, want)
}

func (g *game) tick(now uint64, want ...api.Done) {
	g.t.Helper()
	g.answers(fmt.Sprintf("Tick(%d)", now), func(e api.Engine) (api.Engine, []api.Done) { return Tick(e, now) }, want)
}

// arm sets the disk's fuse.
func (g *game) arm(fuse int) {
	g.e = call(g.t, "Arm", g.e, func(e api.Engine) answer { return answer{e: Arm(e, fuse)} }).e
}

// check makes a run.
func (g *game) check(want api.Errno) {
	g.t.Helper()
	a := call(g.t, "Check", g.e, func(e api.Engine) answer {
		k, err := Check(e)
		return answer{e: k, err: err}
	})
	if a.err != want {
		g.t.Errorf("Check: %d; want %d", a.err, want)
	}
	g.e = a.e
}

// crash begins anew.
func (g *game) crash(keeps []int, want api.Errno) {
	g.t.Helper()
	in := apart(keeps, 77)
	a := call(g.t, "Crash", g.e, func(e api.Engine) answer {
		k, err := Crash(e, in)
		return answer{e: k, err: err}
	})
	if a.err != want || !slices.Equal(in, keeps) || !slices.Equal(in[:len(in)+2], apart(keeps, 77)[:len(in)+2]) {
		g.t.Errorf("Crash(%d): %d; want %d; and %d was handed in", in, a.err, want, keeps)
	}
	g.e = a.e
}

// want: the engine is as it should be, the same and alike.
func (g *game) want(e api.Engine) {
	g.t.Helper()
	if !alike(g.e, e) || !Same(g.e, e) {
		g.t.Errorf("%+v; want %+v", g.e, e)
	}
}

// wantTxn: how a transaction stands.
func (g *game) wantTxn(want api.Txn) {
	g.t.Helper()
	if got, is := Find(g.e, want.Id); !is || !alikeTxns(got, want) {
		g.t.Errorf("Find(%d): %+v, %t; want %+v", want.Id, got, is, want)
	}
}

// wantLive: these transactions live, the eldest first.
func (g *game) wantLive(ids ...int) {
	g.t.Helper()
	var live []int
	for _, t := range g.e.T {
		live = append(live, t.Id)
	}
	if !slices.Equal(live, ids) {
		g.t.Errorf("%d live; want %d", live, ids)
	}
}

// wantData: keys and values that are committed, in turn.
func (g *game) wantData(t ...string) {
	g.t.Helper()
	if !slices.Equal(g.e.X.S.Data, row(t...)) {
		g.t.Errorf("the data: %q; want %q", g.e.X.S.Data, t)
	}
}

// wantToks: tokens that are decided, and how, in turn.
func (g *game) wantToks(t ...string) {
	g.t.Helper()
	if !slices.Equal(g.e.X.S.Toks, row(t...)) {
		g.t.Errorf("the tokens: %q; want %q", g.e.X.S.Toks, t)
	}
}

// wantHeld: all that is held; wantQueue: all claims.
func (g *game) wantHeld(want ...api.Hold) {
	g.t.Helper()
	if !slices.Equal(g.e.L.Held, want) {
		g.t.Errorf("held: %+v; want %+v", g.e.L.Held, want)
	}
}

func (g *game) wantQueue(want ...api.Claim) {
	g.t.Helper()
	if !slices.Equal(g.e.L.Queue, want) {
		g.t.Errorf("claims: %+v; want %+v", g.e.L.Queue, want)
	}
}
