package batch

import (
	"fmt"
	"slices"
	"testing"

	"stanchion/api"
)

// toldPut is chapter 5's Put.
func toldPut(l []api.Pair, key, val string) []api.Pair {
	p := row(key, val)
	for i := range l {
		if l[i].Key == key {
			return slices.Concat(l[:i], p, l[i+1:])
		}
	}
	for i := range l {
		if below(key, l[i].Key) {
			return slices.Concat(l[:i], p, l[i:])
		}
	}
	return slices.Concat(l, p)
}

// toldDrop is chapter 5's Drop.
func toldDrop(l []api.Pair, key string) []api.Pair {
	var left []api.Pair
	for _, p := range l {
		if p.Key != key {
			left = append(left, p)
		}
	}
	return left
}

// toldDecided is Decided, as its words tell it.
func toldDecided(s api.State, token string) (string, bool) {
	for _, p := range s.Toks {
		if p.Key == token {
			return p.Val, true
		}
	}
	return "", false
}

// toldDo is Do, as its words tell it.
func toldDo(s api.State, b api.Batch) (api.State, api.Errno) {
	if !toldMay(b) {
		return s, api.ErrArg
	}
	if _, is := toldDecided(s, b.Token); is {
		return s, api.ErrThere
	}
	val := "c"
	if b.Kind == 2 {
		val = "g"
	}
	data := s.Data
	for _, w := range b.Writes {
		if w.Del {
			data = toldDrop(data, w.Key)
		} else {
			data = toldPut(data, w.Key, w.Val)
		}
	}
	return state(data, toldPut(s.Toks, b.Token, val)), api.OK
}

// wantDo: what Do tells; nothing that is handed in is written into, spare room neither, and what comes out is the caller's own, and stays as it is.
func wantDo(t *testing.T, s api.State, b api.Batch, after api.State, e api.Errno) {
	t.Helper()
	what := fmt.Sprintf("%s of %.100q", show(b), s)
	in, in1 := roomyState(s), roomyBatch(b)
	for range 2 {
		got, e1 := Do(in, in1)
		if !alikeStates(got, after) || e1 != e {
			t.Errorf("%s: %.200q, %d; want %.200q, %d", what, got, e1, after, e)
		}
		kept := state(slices.Clone(got.Data), slices.Clone(got.Toks))
		for _, later := range []api.Batch{commit("later", put("\x00", "later"), put("a", "later"), put("\xff\xff", "later")), commit("", del("a")), giveUp("t"), commit("later still", del("a"), del("b"))} {
			Do(got, later)
		}
		spoil(in.Data, sparePair)
		spoil(in.Toks, sparePair)
		spoil(in1.Writes, spareWrite)
		if !alikeStates(got, kept) {
			t.Errorf("%s: a later call, or what was handed in, changed it", what)
		}
		copy(in.Data, s.Data)
		copy(in.Toks, s.Toks)
		copy(in1.Writes, b.Writes)
		spoilState(t, got, what)
		wantStateUntouched(t, in, s, what)
		wantUntouched(t, in1.Writes, b.Writes, spareWrite, what)
	}
}

// wantDecided: what Decided tells.
func wantDecided(t *testing.T, s api.State, token, val string, is bool) {
	t.Helper()
	in := roomyState(s)
	for range 2 {
		if val1, is1 := Decided(in, token); val1 != val || is1 != is {
			t.Errorf("%q of %.200q: %q, %t; want %q, %t", token, s, val1, is1, val, is)
		}
		wantStateUntouched(t, in, s, "Decided")
	}
}

// TestP7_2Decided: tokens that are decided, and such that aren't; of a token that stands twice the first one counts; keys of Data are no tokens.
func TestP7_2Decided(t *testing.T) {
	s := state(row("a", "1", "x", "c"), row("t", "c", "tt", "g", "", "c", "\xff", "g", "t", "g", "odd", "?"))
	for _, x := range []struct {
		token, val string
		is         bool
	}{
		{"t", "c", true}, {"tt", "g", true}, {"", "c", true}, {"\xff", "g", true}, {"odd", "?", true},
		{"x", "", false}, {"a", "", false}, {"ttt", "", false}, {"T", "", false}, {"c", "", false}, {"\xff\xff", "", false}, {"t\x00", "", false}, {text(17), "", false},
	} {
		wantDecided(t, s, x.token, x.val, x.is)
		wantDecided(t, state(s.Data, nil), x.token, "", false)
	}
	wantDecided(t, api.State{}, "", "", false)
	wantDecided(t, api.State{}, "t", "", false)
}

// TestP7_2Do: ordinary batches, and the edges.
func TestP7_2Do(t *testing.T) {
	s := state(row("a", "1", "c", "3"), row("t", "c"))
	odd := state(row("c", "3", "a", "1", "c", "4", "", "0"), row("z", "g", "b", "c"))
	for _, x := range []struct {
		s     api.State
		b     api.Batch
		after api.State
	}{
		{api.State{}, commit("t"), state(nil, row("t", "c"))},
		{api.State{}, giveUp("t"), state(nil, row("t", "g"))},
		{api.State{}, commit("t", put("a", "1")), state(row("a", "1"), row("t", "c"))},
		{api.State{}, commit("t", del("a")), state(nil, row("t", "c"))},
		{api.State{}, commit("t", put("a", "")), state(row("a", ""), row("t", "c"))},
		{s, commit("u"), state(s.Data, row("t", "c", "u", "c"))},
		{s, commit("s"), state(s.Data, row("s", "c", "t", "c"))},
		{s, giveUp("s"), state(s.Data, row("s", "g", "t", "c"))},
		{s, giveUp("tt"), state(s.Data, row("t", "c", "tt", "g"))},
		{s, commit("T"), state(s.Data, row("T", "c", "t", "c"))},
		{s, commit("a"), state(s.Data, row("a", "c", "t", "c"))},
		{s, commit("u", put("a", "1"), put("c", "3")), state(s.Data, row("t", "c", "u", "c"))},
		{s, commit("u", del("b")), state(s.Data, row("t", "c", "u", "c"))},
		{s, commit("u", del("A"), del("b"), del("d")), state(s.Data, row("t", "c", "u", "c"))},
		{s, commit("u", del("t")), state(s.Data, row("t", "c", "u", "c"))},
		{s, commit("u", put("t", "g")), state(row("a", "1", "c", "3", "t", "g"), row("t", "c", "u", "c"))},
		{s, commit("u", put("b", "2")), state(row("a", "1", "b", "2", "c", "3"), row("t", "c", "u", "c"))},
		{s, commit("u", del("a"), put("b", "2"), put("c", ""), put("d", "4")), state(row("b", "2", "c", "", "d", "4"), row("t", "c", "u", "c"))},
		{s, commit("u", del("a"), del("c")), state(nil, row("t", "c", "u", "c"))},
		{s, commit("\xff", put("\x80", "\xff"), put("\xff", "\x80")), state(row("a", "1", "c", "3", "\x80", "\xff", "\xff", "\x80"), row("t", "c", "\xff", "c"))},
		{odd, commit("a", put("b", "2"), put("c", "5")), state(row("b", "2", "c", "5", "a", "1", "c", "4", "", "0"), row("a", "c", "z", "g", "b", "c"))},
		{odd, commit("c", del("c")), state(row("a", "1", "", "0"), row("c", "c", "z", "g", "b", "c"))},
		{odd, giveUp("zz"), state(odd.Data, row("z", "g", "b", "c", "zz", "g"))},
	} {
		wantDo(t, x.s, x.b, x.after, api.OK)
		told, e := toldDo(x.s, x.b)
		wantDo(t, x.s, x.b, told, e)
	}
}

// TestP7_2DoWrong: batches that may not be, and tokens that are decided; the first of both errors is told where both are there.
func TestP7_2DoWrong(t *testing.T) {
	s := state(row("a", "1", "b", "2"), row("", "c", "g", "g", "odd", "", "t", "c", text(16), "c", text(17), "g"))
	for _, b := range mayNot() {
		wantDo(t, s, b, s, api.ErrArg)
		wantDo(t, api.State{}, b, api.State{}, api.ErrArg)
	}
	for _, token := range []string{"g", "odd", "t", text(16)} {
		wantDo(t, s, giveUp(token), s, api.ErrThere)
		wantDo(t, s, commit(token), s, api.ErrThere)
		wantDo(t, s, commit(token, put("a", "9"), del("b"), put("c", "3")), s, api.ErrThere)
		wantDo(t, s, commit(token, put("a", "1")), s, api.ErrThere)
		wantDo(t, s, commit(token, put("b", "2"), put("a", "1")), s, api.ErrArg)
		wantDo(t, s, api.Batch{Kind: 2, Token: token, Writes: []api.Write{del("a")}}, s, api.ErrArg)
		wantDo(t, s, api.Batch{Kind: 3, Token: token}, s, api.ErrArg)
	}
}

// TestP7_2DoMany: batches that may be, all of them, on some states.
func TestP7_2DoMany(t *testing.T) {
	for _, s := range states() {
		for _, b := range mayBe() {
			after, e := toldDo(s, b)
			wantDo(t, s, b, after, e)
		}
	}
}

// TestP7_2Told: all batches of two tokens and few keys, those that may not be too, on all short states.
func TestP7_2Told(t *testing.T) {
	var all []api.Batch
	few := []api.Write{put("a", "1"), put("b", "2"), put("", "3"), del("a"), del("b"), {Key: "b", Val: "4", Del: true}}
	lists := [][]api.Write{nil}
	for _, w := range few {
		lists = append(lists, []api.Write{w})
		for _, x := range few {
			lists = append(lists, []api.Write{w, x})
		}
	}
	for kind := range 4 {
		for _, token := range []string{"", "t", "u"} {
			for _, w := range lists {
				all = append(all, api.Batch{Kind: kind, Token: token, Writes: w})
			}
		}
	}
	n := map[api.Errno]int{}
	for _, s := range states() {
		for _, b := range all {
			after, e := toldDo(s, b)
			wantDo(t, s, b, after, e)
			n[e]++
		}
	}
	if len(n) != 3 {
		t.Errorf("%v", n)
	}
}

// states are some, with rows that are right and such that aren't, and with tokens that are decided in either way, or in none that is known.
func states() []api.State {
	rows := [][]api.Pair{nil, row("a", "0"), row("b", "0"), row("a", "0", "b", "9"), row("b", "9", "a", "0"), row("a", "1", "b", "2", "a", "3"), row("", "0", "ab", "1")}
	decided := [][]api.Pair{nil, row("t", "c"), row("t", "g"), row("u", "c"), row("u", "g", "t", "c"), row("t", "g", "t", "c"), row("s", "?", "v", "")}
	var all []api.State
	for _, data := range rows {
		for _, toks := range decided {
			all = append(all, state(data, toks))
		}
	}
	return all
}
