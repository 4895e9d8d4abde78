package batch

import (
	"bytes"
	"fmt"
	"math/rand"
	"slices"
	"strings"
	"testing"

	"stanchion/api"
	"stanchion/table"
)

// text is one of n bytes that aren't all alike, so that a wrong piece of it shows.
func text(n int) string {
	b := make([]byte, n)
	for i := range b {
		b[i] = byte('a' + (i+i/26)%26)
	}
	return string(b)
}

// row is one of keys and values in turn.
func row(t ...string) []api.Pair {
	var l []api.Pair
	for i := 0; i+1 < len(t); i += 2 {
		l = append(l, api.Pair{Key: t[i], Val: t[i+1]})
	}
	return l
}

// put is a write that puts.
func put(key, val string) api.Write {
	return api.Write{Key: key, Val: val}
}

// del is a write that drops.
func del(key string) api.Write {
	return api.Write{Key: key, Del: true}
}

// commit is a batch that commits.
func commit(token string, w ...api.Write) api.Batch {
	return api.Batch{Kind: 1, Token: token, Writes: w}
}

// giveUp is a batch that gives a token up.
func giveUp(token string) api.Batch {
	return api.Batch{Kind: 2, Token: token}
}

// state is one of two rows.
func state(data, toks []api.Pair) api.State {
	return api.State{Data: data, Toks: toks}
}

// risingPuts are n writes, of keys that rise.
func risingPuts(n int) []api.Write {
	var l []api.Write
	for i := range n {
		l = append(l, put(fmt.Sprintf("%02d", i), text(i)))
	}
	return l
}

// below: is a key below another one, by their bytes?
func below(a, b string) bool {
	return bytes.Compare([]byte(a), []byte(b)) < 0
}

// show tells a batch by its bytes, whether it may be or not.
func show(b api.Batch) string {
	return fmt.Sprintf("%.200q", told(b))
}

// alike: are two batches the same, field by field, write by write?
func alike(a, b api.Batch) bool {
	return a.Kind == b.Kind && a.Token == b.Token && slices.Equal(a.Writes, b.Writes)
}

// alikeStates: are two states the same, as the words of Same tell it?
func alikeStates(a, b api.State) bool {
	return alikePairs(a.Data, b.Data) && alikePairs(a.Toks, b.Toks)
}

func alikePairs(l, m []api.Pair) bool {
	if len(l) != len(m) {
		return false
	}
	for i := range l {
		if l[i].Key != m[i].Key || l[i].Val != m[i].Val {
			return false
		}
	}
	return true
}

// roomy is a list with spare room behind it, which is full of a thing.
func roomy[T any](l []T, spare T) []T {
	return append(append(make([]T, 0, len(l)+4), l...), spare, spare, spare, spare)[:len(l)]
}

// The things that spare room is full of.
var (
	sparePair  = api.Pair{Key: "spare", Val: "room"}
	spareWrite = put("spare", "room")
)

// roomyBatch is a batch whose list is roomy.
func roomyBatch(b api.Batch) api.Batch {
	b.Writes = roomy(b.Writes, spareWrite)
	return b
}

// roomyState is a state whose lists are roomy.
func roomyState(s api.State) api.State {
	return state(roomy(s.Data, sparePair), roomy(s.Toks, sparePair))
}

// wantUntouched: a roomy list is as it was, its spare room too.
func wantUntouched[T comparable](t *testing.T, now, before []T, spare T, what string) {
	t.Helper()
	if !slices.Equal(now, before) {
		t.Errorf("%s: %.60v was handed in, and is %.60v now", what, before, now)
	}
	for _, v := range now[len(now) : len(now)+4] {
		if v != spare {
			t.Errorf("%s: the spare room behind %.60v was written into", what, before)
		}
	}
}

// wantStateUntouched: both lists of a roomy state are as they were.
func wantStateUntouched(t *testing.T, now, before api.State, what string) {
	t.Helper()
	wantUntouched(t, now.Data, before.Data, sparePair, what)
	wantUntouched(t, now.Toks, before.Toks, sparePair, what)
}

// spoil writes all over a list that came out, its spare room too: nobody else ought to see that.
func spoil[T any](l []T, v T) {
	l = l[:cap(l)]
	for i := range l {
		l[i] = v
	}
}

// spoilState spoils the lists of a state, one by one: the other one mustn't see it.
func spoilState(t *testing.T, s api.State, what string) {
	t.Helper()
	kept := slices.Clone(s.Toks)
	spoil(s.Data, api.Pair{Key: "other", Val: "other"})
	if !slices.Equal(s.Toks, kept) {
		t.Errorf("%s: Toks shares its memory with Data", what)
	}
	spoil(s.Toks, api.Pair{Key: "another", Val: "another"})
}

// words are all texts of at most n of some bytes.
func words(some string, n int) []string {
	all := []string{""}
	last := all
	for range n {
		var longer []string
		for _, s := range last {
			for i := range some {
				longer = append(longer, s+some[i:i+1])
			}
		}
		all, last = append(all, longer...), longer
	}
	return all
}

// lotText is a text by lot, of any bytes, of a length from least to most, the ends of these not too seldom.
func lotText(r *rand.Rand, least, most int) string {
	n := least + r.Intn(min(most-least, 3)+1)
	switch r.Intn(12) {
	case 0:
		n = most
	case 1:
		n = least + r.Intn(most-least+1)
	}
	b := make([]byte, n)
	for i := range b {
		if r.Intn(2) == 0 {
			b[i] = "0;12ab\x80\xff"[r.Intn(8)]
		} else {
			b[i] = byte(r.Intn(256))
		}
	}
	return string(b)
}

// lotBatch is a batch that may be, by lot.
func lotBatch(r *rand.Rand) api.Batch {
	if r.Intn(4) == 0 {
		return giveUp(lotText(r, 1, 16))
	}
	n := r.Intn(6)
	if r.Intn(8) == 0 {
		n = 24
	}
	var l []api.Write
	for range n {
		w := put(lotText(r, 1, 32), lotText(r, 0, 64))
		if r.Intn(3) == 0 {
			w.Val, w.Del = "", true
		}
		l = append(l, w)
	}
	slices.SortFunc(l, func(a, b api.Write) int { return strings.Compare(a.Key, b.Key) })
	l = slices.CompactFunc(l, func(a, b api.Write) bool { return a.Key == b.Key })
	return commit(lotText(r, 1, 16), l...)
}

// TestP7_4Taken: what was written is taken as it was, whatever batch; of a beginning of its bytes nothing is, nor of more than them.
func TestP7_4Taken(t *testing.T) {
	r := rand.New(rand.NewSource(71))
	for range 3000 {
		b := lotBatch(r)
		s, e := Bytes(b)
		if e != api.OK || !May(b) || s != told(b) {
			t.Fatalf("%s: %.100q, %d, %t", show(b), s, e, May(b))
		}
		wantTake(t, s, b, api.OK)
		wantTake(t, s[:r.Intn(len(s))], api.Batch{}, api.ErrForm)
		wantTake(t, s+lotText(r, 1, 9), api.Batch{}, api.ErrForm)
		wantTake(t, s+s, api.Batch{}, api.ErrForm)
	}
}

// TestP7_4Unlike: batches that are unlike have bytes that are unlike.
func TestP7_4Unlike(t *testing.T) {
	seen := map[string]int{}
	for i, b := range mayBe() {
		s, e := Bytes(b)
		if at, is := seen[s]; is || e != api.OK {
			t.Errorf("the batch %d, %d: the bytes of the batch %d", i, e, at)
		}
		seen[s] = i
	}
}

// walk is a state on its way, with what it ought to be: the values of keys, and what is decided of tokens, in the order in which that came.
type walk struct {
	s    api.State
	data map[string]string
	toks map[string]string
}

// step does a batch that may be, and tells whether it was told as done.
func (k *walk) step(t *testing.T, b api.Batch) {
	t.Helper()
	s, e := Do(k.s, b)
	_, there := k.toks[b.Token]
	switch {
	case there && (e != api.ErrThere || !alikeStates(s, k.s)):
		t.Errorf("%s, decided already: %d, %.100q; was %.100q", show(b), e, s, k.s)
	case !there && e != api.OK:
		t.Errorf("%s: %d", show(b), e)
	case !there:
		k.toks[b.Token] = map[int]string{1: "c", 2: "g"}[b.Kind]
		for _, w := range b.Writes {
			k.data[w.Key] = w.Val
			if w.Del {
				delete(k.data, w.Key)
			}
		}
	}
	k.s = s
}

// wantWalk: a state is right, and what it ought to be; as pairs, that are right too, it goes and comes back.
func (k *walk) wantWalk(t *testing.T) {
	t.Helper()
	s := k.s
	if !table.Right(s.Data) || !table.Right(s.Toks) || len(s.Data) != len(k.data) || len(s.Toks) != len(k.toks) {
		t.Errorf("%.200q; want %.100q and %.100q", s, k.data, k.toks)
	}
	for _, p := range s.Data {
		if val, is := k.data[p.Key]; !is || val != p.Val {
			t.Errorf("%q; want %q, %t", p, val, is)
		}
	}
	for token, val := range k.toks {
		wantDecided(t, s, token, val, true)
	}
	l := Pairs(s)
	back, e := Back(l)
	if !table.Right(l) || e != api.OK || !Same(back, s) || !alikeStates(back, s) {
		t.Errorf("%.200q, and back %.200q, %d", s, back, e)
	}
}

// TestP7_4Walk: batches one after the other, as they are and by way of their bytes; now and then one comes again, or another one of its token: a token is decided once, and stays so.
func TestP7_4Walk(t *testing.T) {
	r := rand.New(rand.NewSource(74))
	for range 40 {
		k := walk{data: map[string]string{}, toks: map[string]string{}}
		var all []api.Batch
		for range 60 {
			b := lotBatch(r)
			if len(all) > 0 {
				switch old := all[r.Intn(len(all))]; r.Intn(4) {
				case 0:
					b = old
				case 1:
					b.Token = old.Token
				case 2:
					b = giveUp(old.Token)
				}
			}
			s, _ := Bytes(b)
			taken, e := Take(s)
			if e != api.OK || !alike(taken, b) {
				t.Fatalf("%s is taken as %s, %d", show(b), show(taken), e)
			}
			if r.Intn(2) == 0 {
				b = taken
			}
			all = append(all, b)
			k.step(t, b)
			k.wantWalk(t)
			k.step(t, b)
			k.wantWalk(t)
			if t.Failed() {
				t.FailNow()
			}
		}
		for _, b := range all {
			k.step(t, b)
		}
		k.wantWalk(t)
	}
}

// TestP7_4Again: of all short rows of batches, doing each of them again, in any place, changes nothing.
func TestP7_4Again(t *testing.T) {
	few := []api.Batch{commit("t", put("a", "1")), commit("t", del("a"), put("b", "2")), giveUp("t"), commit("u", put("a", "3")), commit("u"), giveUp("u"), commit("v", del("a"), del("b"))}
	for i := range 7 * 7 * 7 {
		k := walk{data: map[string]string{}, toks: map[string]string{}}
		all := []api.Batch{few[i%7], few[i/7%7], few[i/49]}
		for n, b := range all {
			k.step(t, b)
			before := k.s
			for _, again := range all[:n+1] {
				k.step(t, again)
			}
			if !alikeStates(before, k.s) {
				t.Errorf("%s: %q, and was %q", show(b), k.s, before)
			}
			k.wantWalk(t)
		}
	}
}

// TestR3: states that come of one state, one after the other, stand apart, with an error too.
func TestR3(t *testing.T) {
	x, _ := Do(api.State{}, commit("t", put("a", "1"), put("c", "3")))
	y1, _ := Do(x, commit("u", put("b", "x")))
	y2, _ := Do(x, commit("u", put("b", "y")))
	z1, _ := Do(x, giveUp("v"))
	z2, _ := Do(x, commit("v"))
	same, _ := Do(x, commit("t"))
	none, _ := Do(x, commit(""))
	for _, s := range []api.State{same, none} {
		_ = append(s.Data, sparePair)
		_ = append(s.Toks, sparePair)
		spoilState(t, s, "an error's state")
	}
	back, _ := Back(Pairs(y1))
	spoilState(t, back, "Back")
	spoil(Pairs(x), sparePair)
	for _, s := range []struct{ got, want api.State }{
		{x, state(row("a", "1", "c", "3"), row("t", "c"))},
		{y1, state(row("a", "1", "b", "x", "c", "3"), row("t", "c", "u", "c"))},
		{y2, state(row("a", "1", "b", "y", "c", "3"), row("t", "c", "u", "c"))},
		{z1, state(row("a", "1", "c", "3"), row("t", "c", "v", "g"))},
		{z2, state(row("a", "1", "c", "3"), row("t", "c", "v", "c"))},
	} {
		if !alikeStates(s.got, s.want) {
			t.Errorf("%q; want %q", s.got, s.want)
		}
	}
}
