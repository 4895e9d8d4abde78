package batch

import (
	"slices"
	"testing"

	"stanchion/api"
)

// toldPairs is Pairs, as its words tell it.
func toldPairs(s api.State) []api.Pair {
	var l []api.Pair
	for _, p := range s.Data {
		l = append(l, row("d"+p.Key, p.Val)...)
	}
	for _, p := range s.Toks {
		l = append(l, row("t"+p.Key, p.Val)...)
	}
	return l
}

// toldBack looks for the state of which a row is the Pairs.
func toldBack(l []api.Pair) (api.State, api.Errno) {
	for n := range len(l) + 1 {
		var s api.State
		for i, p := range l {
			if p.Key == "" {
				break
			}
			p.Key = p.Key[1:]
			if i < n {
				s.Data = append(s.Data, p)
			} else if p.Val == "c" || p.Val == "g" {
				s.Toks = append(s.Toks, p)
			}
		}
		if alikePairs(toldPairs(s), l) {
			return s, api.OK
		}
	}
	return api.State{}, api.ErrForm
}

// wantPairs: what Pairs tells; the row is the caller's own, and nothing that is handed in is written into.
func wantPairs(t *testing.T, s api.State, l []api.Pair) {
	t.Helper()
	in := roomyState(s)
	for range 2 {
		got := Pairs(in)
		if !alikePairs(got, l) {
			t.Errorf("%.200q: %.200q; want %.200q", s, got, l)
		}
		kept := slices.Clone(got)
		Pairs(state(got, got))
		if !alikePairs(got, kept) {
			t.Errorf("%.200q: a later call made it %.200q", kept, got)
		}
		spoil(got, sparePair)
		wantStateUntouched(t, in, s, "Pairs")
	}
}

// wantBack: what Back tells; the state is the caller's own, and nothing that is handed in is written into.
func wantBack(t *testing.T, l []api.Pair, s api.State, e api.Errno) {
	t.Helper()
	in := roomy(l, sparePair)
	for range 2 {
		got, e1 := Back(in)
		if !alikeStates(got, s) || e1 != e {
			t.Errorf("%.200q: %.200q, %d; want %.200q, %d", l, got, e1, s, e)
		}
		spoilState(t, got, "Back")
		wantUntouched(t, in, l, sparePair, "Back")
	}
}

// TestP7_3: states of nothing, of data, of tokens, of both; with empty keys, with such as begin with the letters themselves, with bytes of 128 and above, in any order.
func TestP7_3(t *testing.T) {
	for _, x := range []struct {
		s api.State
		l []api.Pair
	}{
		{api.State{}, nil},
		{state([]api.Pair{}, []api.Pair{}), nil},
		{state(row("a", "1"), nil), row("da", "1")},
		{state(nil, row("t", "c")), row("tt", "c")},
		{state(nil, row("t", "g")), row("tt", "g")},
		{state(row("a", "1"), row("t", "c", "u", "g")), row("da", "1", "tt", "c", "tu", "g")},
		{state(row("", ""), row("", "c")), row("d", "", "t", "c")},
		{state(row("d", "d", "t", "t"), row("d", "c", "t", "g")), row("dd", "d", "dt", "t", "td", "c", "tt", "g")},
		{state(row("c", "c", "g", "g"), row("c", "g", "g", "c")), row("dc", "c", "dg", "g", "tc", "g", "tg", "c")},
		{state(row("b", "2", "a", "1", "b", "3"), row("u", "g", "t", "c", "t", "g")), row("db", "2", "da", "1", "db", "3", "tu", "g", "tt", "c", "tt", "g")},
		{state(row("\x80", "\xff", "\xff", ""), row("\xff", "g", "\x80", "c")), row("d\x80", "\xff", "d\xff", "", "t\xff", "g", "t\x80", "c")},
		{state(row(text(32), text(64), text(70000), text(70000)), row(text(16), "c", text(70000), "g")), row("d"+text(32), text(64), "d"+text(70000), text(70000), "t"+text(16), "c", "t"+text(70000), "g")},
	} {
		wantPairs(t, x.s, x.l)
		wantBack(t, x.l, x.s, api.OK)
	}
	for _, s := range states() {
		wantPairs(t, s, toldPairs(s))
		told, e := toldBack(toldPairs(s))
		wantBack(t, toldPairs(s), told, e)
	}
	wantPairs(t, state(nil, row("t", "?", "u", "")), row("tt", "?", "tu", ""))
}

// TestP7_3BackWrong: keys that are neither, a token ahead of data, what was decided that is nothing.
func TestP7_3BackWrong(t *testing.T) {
	for _, l := range [][]api.Pair{
		row("", ""), row("", "c"), row("a", "c"), row("D", "1"), row("T", "c"), row("c", "c"), row("g", "g"), row("\xe4", "c"), row("\x00da", "1"), row(" da", "1"), row("ad", "1"), row("at", "c"), row("e", "c"), row("s", "c"), row("u", "c"), row("\xf4", "c"),
		row("da", "1", "", ""), row("", "", "da", "1"), row("da", "1", "x", "c"), row("x", "c", "da", "1"), row("tt", "c", "x", "c"), row("x", "c", "tt", "c"), row("tt", "c", "", "c"), row("da", "1", "", "c", "tt", "c"),
		row("tt", "c", "da", "1"), row("t", "c", "d", "1"), row("da", "1", "tt", "c", "db", "2"), row("da", "1", "tt", "g", "db", "2", "tu", "c"), row("tt", "c", "tu", "g", "da", "c"), row("da", "1", "tt", "c", "tu", "c", "da", "1"),
		row("tt", ""), row("tt", "C"), row("tt", "G"), row("tt", "cg"), row("tt", "c "), row("tt", "cc"), row("tt", "gg"), row("tt", " c"), row("tt", "d"), row("tt", "1"), row("tt", "\xe3"), row("tt", "b"), row("tt", "f"), row("t", ""),
		row("tt", "c", "tu", ""), row("tt", "", "tu", "c"), row("da", "1", "tt", "x"), row("da", "1", "tt", "c", "tu", "g", "tv", "1"), row("tt", "x", "da", "1"),
	} {
		wantBack(t, l, api.State{}, api.ErrForm)
		if s, e := toldBack(l); e != api.ErrForm {
			t.Errorf("%q is told: %q", l, s)
		}
	}
}

// TestP7_3Told: all rows of at most four pairs of some.
func TestP7_3Told(t *testing.T) {
	some := row("d", "", "da", "1", "da", "c", "t", "c", "tt", "c", "tt", "g", "tu", "x", "x", "c", "", "g")
	rows, last, n := [][]api.Pair{nil}, [][]api.Pair{nil}, 0
	for range 4 {
		var longer [][]api.Pair
		for _, l := range last {
			for i := range some {
				longer = append(longer, slices.Concat(l, some[i:i+1]))
			}
		}
		rows, last = append(rows, longer...), longer
	}
	for _, l := range rows {
		s, e := toldBack(l)
		wantBack(t, l, s, e)
		if e == api.OK {
			n++
			wantPairs(t, s, l)
		}
	}
	// Of n pairs so many have some of three of data first, then some of three of tokens: (n + 1) times 3 to the n.
	if n != 1+2*3+3*9+4*27+5*81 {
		t.Errorf("%d are the Pairs of a state", n)
	}
}
