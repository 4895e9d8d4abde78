package alarm

import (
	"math"
	"math/rand"
	"slices"
	"testing"

	"stanchion/api"
)

// toldHeap is Heap, as its words tell it.
func toldHeap(h []api.Alarm) bool {
	for i, a := range h {
		for _, j := range ids(2*i+1, 2*i+2) {
			if j < len(h) && order(h[j], a) < 0 {
				return false
			}
		}
	}
	return true
}

// toldOn is the place on which one hangs, and whether it hangs on any.
func toldOn(at int) (int, bool) {
	for on := range at {
		if at == 2*on+1 || at == 2*on+2 {
			return on, true
		}
	}
	return 0, false
}

// changed is h with two that change places.
func changed(h []api.Alarm, i, j int) []api.Alarm {
	k := slices.Clone(h)
	k[i], k[j] = h[j], h[i]
	return k
}

// toldRise is h behind the rise of the one at a place.
func toldRise(h []api.Alarm, at int) []api.Alarm {
	on, is := toldOn(at)
	if !is || order(h[at], h[on]) >= 0 {
		return h
	}
	return toldRise(changed(h, at, on), on)
}

// toldSink is h behind the sinking of the one at a place.
func toldSink(h []api.Alarm, at int) []api.Alarm {
	var hang []int
	for i := range h {
		if on, is := toldOn(i); is && on == at {
			hang = append(hang, i)
		}
	}
	to := -1
	for _, i := range hang {
		if to < 0 || order(h[i], h[to]) < 0 {
			to = i
		}
	}
	if to < 0 || order(h[to], h[at]) >= 0 {
		return h
	}
	return toldSink(changed(h, at, to), to)
}

// toldPut is Put, as its words tell it.
func toldPut(h []api.Alarm, a api.Alarm) []api.Alarm {
	return toldRise(append(slices.Clone(h), a), len(h))
}

// toldPop is Pop, as its words tell it.
func toldPop(h []api.Alarm) ([]api.Alarm, api.Alarm, bool) {
	switch n := len(h); n {
	case 0:
		return nil, api.Alarm{}, false
	case 1:
		return nil, h[0], true
	default:
		return toldSink(append(row(h[n-1]), h[1:n-1]...), 0), h[0], true
	}
}

// toldDue is Due, as its words tell it.
func toldDue(h []api.Alarm, now uint64) ([]api.Alarm, []int) {
	if len(h) == 0 || h[0].At > now {
		return h, nil
	}
	k, a, _ := toldPop(h)
	k, l := toldDue(k, now)
	return k, append(ids(a.Id), l...)
}

// toldDrop is Drop, as its words tell it.
func toldDrop(h []api.Alarm, id int) []api.Alarm {
	var k []api.Alarm
	for _, a := range h {
		if a.Id != id {
			k = toldPut(k, a)
		}
	}
	return k
}

// wantTold: each call of h, with some alarms, times and Ids, answers what the words of P15.1 and P15.2 tell.
func wantTold(t *testing.T, h, some []api.Alarm) {
	t.Helper()
	wantHeap(t, h, toldHeap(h))
	k, one, is := toldPop(h)
	wantPop(t, h, k, one, is)
	for _, a := range some {
		wantPut(t, h, a, toldPut(h, a))
		k, l := toldDue(h, a.At)
		wantDue(t, h, a.At, k, l)
		wantDrop(t, h, a.Id, toldDrop(h, a.Id))
	}
}

// few are alarms of few times and Ids.
func few() []api.Alarm {
	return row(due(0, 1), due(1, 0), due(1, 1), due(2, 0))
}

// TestToldShort: all short rows, heaps and others.
func TestToldShort(t *testing.T) {
	rows(few(), 7, func(h []api.Alarm) {
		wantTold(t, h, append(few(), due(3, 2)))
	})
}

// TestToldLonger: all rows, of which the last ones hang by three steps, of three alarms.
func TestToldLonger(t *testing.T) {
	rows(ats(1, 2, 3), 8, func(h []api.Alarm) {
		wantTold(t, h, row(due(2, 1)))
	})
}

// TestToldWild: longer rows, of small alarms and of any, most of them no heaps, the others made by Put.
func TestToldWild(t *testing.T) {
	r := rand.New(rand.NewSource(15))
	for i := range 1500 {
		h := lots(r, r.Intn(70), i%2 == 0)
		some := append(lots(r, 3, i%2 == 0), h[:min(len(h), 2)]...)
		wantTold(t, h, some)
		var k []api.Alarm
		for _, a := range h {
			k = toldPut(k, a)
		}
		wantTold(t, k, some)
	}
}

// wantSame: k is a heap of just the alarms of want, whatever their order.
func wantSame(t *testing.T, k, want []api.Alarm, what string) {
	t.Helper()
	if !toldHeap(k) || !Heap(k) {
		t.Fatalf("%s: no heap: %s", what, brief(k))
	}
	if !slices.Equal(sorted(k), sorted(want)) {
		t.Fatalf("%s: %s; want %s", what, brief(sorted(k)), brief(sorted(want)))
	}
}

// without are the alarms whose Id isn't id.
func without(h []api.Alarm, id int) []api.Alarm {
	return slices.DeleteFunc(slices.Clone(h), func(a api.Alarm) bool { return a.Id == id })
}

// late is how many of sorted alarms are at now or ahead of it.
func late(h []api.Alarm, now uint64) int {
	n := 0
	for n < len(h) && h[n].At <= now {
		n++
	}
	return n
}

// wantKept: of a heap each call makes one, of the alarms that are to be in it.
func wantKept(t *testing.T, h []api.Alarm, a api.Alarm) {
	t.Helper()
	wantSame(t, Put(h, a), append(row(a), h...), "Put")
	wantSame(t, Drop(h, a.Id), without(h, a.Id), "Drop")
	all := sorted(h)
	k, one, is := Pop(h)
	if is != (len(h) > 0) || is && one != all[0] {
		t.Fatalf("Pop of %s: %v, %t", brief(h), one, is)
	}
	wantSame(t, k, all[min(1, len(all)):], "Pop")
	n := late(all, a.At)
	k, l := Due(h, a.At)
	wantSame(t, k, all[n:], "Due")
	if !slices.Equal(l, idsOf(all[:n])) {
		t.Fatalf("Due of %s at %d: %d", brief(h), a.At, l)
	}
}

// TestP15_3Heaps: all short heaps, however they came.
func TestP15_3Heaps(t *testing.T) {
	heaps := 0
	for _, some := range [][]api.Alarm{few(), row(due(1, 1), due(1, 2)), row(due(1, 1), due(2, 1), due(2, 2))} {
		rows(some, 9-len(some), func(h []api.Alarm) {
			if toldHeap(h) {
				heaps++
				for _, a := range append(some, due(0, 9), due(9, 9)) {
					wantKept(t, h, a)
				}
			}
		})
	}
	if heaps < 200 {
		t.Errorf("only %d heaps came up", heaps)
	}
}

// putAll are alarms, put one by one into an empty heap; each time it is one.
func putAll(t *testing.T, l []api.Alarm) []api.Alarm {
	t.Helper()
	var h []api.Alarm
	for i, a := range l {
		h = Put(h, a)
		wantSame(t, h, l[:i+1], "Put")
	}
	return h
}

// popAll are the alarms of a heap in the order in which Pop tells them.
func popAll(h []api.Alarm) []api.Alarm {
	var l []api.Alarm
	for {
		k, a, is := Pop(h)
		if !is {
			return l
		}
		h, l = k, append(l, a)
	}
}

// TestP15_3Comes: in whatever order few alarms are put, they come out the earliest first, by Pop and by Due; those that are dropped don't.
func TestP15_3Comes(t *testing.T) {
	rows(ats(1, 2, 3, 3, 3), 6, func(l []api.Alarm) {
		h := putAll(t, l)
		all := sorted(l)
		if got := popAll(h); !slices.Equal(got, all) {
			t.Fatalf("of %s came %s", brief(l), brief(got))
		}
		for now := range uint64(5) {
			n := late(all, now)
			if _, got := Due(h, now); !slices.Equal(got, idsOf(all[:n])) {
				t.Fatalf("of %s came %d at %d", brief(l), got, now)
			}
		}
		for id := range 6 {
			if got := popAll(Drop(h, id)); !slices.Equal(got, without(all, id)) {
				t.Fatalf("of %s without %d came %s", brief(l), id, brief(got))
			}
		}
	})
}

// TestP15_3Walk: puts, pops, drops and what is due, held against a row in order, step by step; what stood ahead of a step isn't changed by it.
func TestP15_3Walk(t *testing.T) {
	r := rand.New(rand.NewSource(153))
	for i := range 60 {
		var h, all []api.Alarm
		for range 200 {
			was, before := h, slices.Clone(h)
			a := lot(r, i%3 > 0)
			switch r.Intn(12) {
			case 0:
				n := late(all, a.At/2)
				var l []int
				if h, l = Due(h, a.At/2); !slices.Equal(l, idsOf(all[:n])) {
					t.Fatalf("Due of %s: %d", brief(before), l)
				}
				all = all[n:]
			case 1:
				h, all = Drop(h, a.Id), without(all, a.Id)
			case 2, 3:
				k, one, is := Pop(h)
				if is != (len(all) > 0) || is && one != all[0] {
					t.Fatalf("Pop of %s: %v, %t", brief(before), one, is)
				}
				h, all = k, all[min(1, len(all)):]
			default:
				h, all = Put(h, a), sorted(append(row(a), all...))
			}
			wantSame(t, h, all, "a step")
			if !slices.Equal(was, before) {
				t.Fatalf("%s was changed into %s", brief(before), brief(was))
			}
		}
	}
}

// TestP15_3Renew: who is dropped and put later comes once, at the later time.
func TestP15_3Renew(t *testing.T) {
	h := putAll(t, ats(5, 3, 4))
	h = Put(Drop(h, 2), due(9, 2))
	wantDue(t, h, 8, row(due(9, 2)), ids(3, 1))
	wantDue(t, h, 9, nil, ids(3, 1, 2))
	h = Put(Drop(h, 2), due(math.MaxUint64, 2))
	wantDue(t, h, math.MaxUint64-1, row(due(math.MaxUint64, 2)), ids(3, 1))
	wantDue(t, h, math.MaxUint64, nil, ids(3, 1, 2))
}

// TestP15_3Many: a great many of them; a call that goes through all of them copies them once, not once for each.
func TestP15_3Many(t *testing.T) {
	r := rand.New(rand.NewSource(154))
	const n = 300000
	h := make([]api.Alarm, n)
	for i := range h {
		h[i] = due(uint64(r.Intn(n)), i)
	}
	k := Drop(h, 7)
	want := without(h, 7)
	wantSame(t, k, want, "Drop of many")
	rest, l := Due(k, math.MaxUint64)
	if len(rest) > 0 || !slices.Equal(l, idsOf(sorted(want))) {
		t.Errorf("of %d alarms came %d, and %d are left", len(k), len(l), len(rest))
	}
	rest, l = Due(k, n/2)
	if len(l) != late(sorted(want), n/2) {
		t.Errorf("half of the time of %d alarms: %d", len(k), len(l))
	}
	wantSame(t, rest, sorted(want)[len(l):], "Due of many")
}
