package alarm

import (
	"cmp"
	"fmt"
	"math"
	"math/rand"
	"slices"
	"testing"

	"stanchion/api"
)

// due is an alarm.
func due(at uint64, id int) api.Alarm {
	return api.Alarm{At: at, Id: id}
}

// row is a row of alarms.
func row(l ...api.Alarm) []api.Alarm {
	return l
}

// ats are alarms of those times, whose Ids are 1, 2 and so on.
func ats(l ...uint64) []api.Alarm {
	var h []api.Alarm
	for i, at := range l {
		h = append(h, due(at, i+1))
	}
	return h
}

// ids are numbers.
func ids(l ...int) []int {
	return l
}

// idsOf are the Ids of alarms, in order.
func idsOf(h []api.Alarm) []int {
	var l []int
	for _, a := range h {
		l = append(l, a.Id)
	}
	return l
}

// order holds two alarms against each other.
func order(a, b api.Alarm) int {
	return cmp.Or(cmp.Compare(a.At, b.At), cmp.Compare(a.Id, b.Id))
}

// sorted are the same alarms, the earliest first.
func sorted(h []api.Alarm) []api.Alarm {
	return slices.SortedFunc(slices.Values(h), order)
}

// brief tells alarms: at most so many of them as a test can show.
func brief(h []api.Alarm) string {
	s := fmt.Sprintf("%d alarms", len(h))
	for _, a := range h[:min(len(h), 20)] {
		s += fmt.Sprintf(" %d.%d", a.At, a.Id)
	}
	return s
}

// spare is what stands in the room behind a roomy row.
var spare = due(77, 78)

// roomy is a row with room behind it, in which spare alarms stand.
func roomy(h []api.Alarm) []api.Alarm {
	return append(append(make([]api.Alarm, 0, len(h)+3), h...), spare, spare, spare)[:len(h)]
}

// wantUntouched: a roomy row is as it was, and so is the room behind it. The first fault ends the test, here and below: of all short rows there would be thousands.
func wantUntouched(t *testing.T, in, was []api.Alarm, what string) {
	t.Helper()
	if !slices.Equal(in, was) || !slices.Equal(in[len(in):len(in)+3], row(spare, spare, spare)) {
		t.Fatalf("%s: what was handed in was %s, and is now %s", what, brief(was), brief(in[:len(in)+3]))
	}
}

// spoil writes over a list, and over the room behind it.
func spoil[T any](l []T, with T) {
	all := l[:cap(l)]
	for i := range all {
		all[i] = with
	}
}

// wantHeap: what Heap answers.
func wantHeap(t *testing.T, h []api.Alarm, want bool) {
	t.Helper()
	in := roomy(h)
	if is := Heap(in); is != want {
		t.Fatalf("Heap of %s: %t", brief(h), is)
	}
	wantUntouched(t, in, h, "Heap")
}

// wantPut: what Put answers; the same, and in memory of its own, when it is asked again.
func wantPut(t *testing.T, h []api.Alarm, a api.Alarm, want []api.Alarm) {
	t.Helper()
	in := roomy(h)
	for range 2 {
		k := Put(in, a)
		if !slices.Equal(k, want) {
			t.Fatalf("Put of %d.%d into %s: %s; want %s", a.At, a.Id, brief(h), brief(k), brief(want))
		}
		spoil(k, due(9, 9))
		wantUntouched(t, in, h, "Put")
	}
}

// wantPop: what Pop answers; the same, and in memory of its own, when it is asked again.
func wantPop(t *testing.T, h, want []api.Alarm, one api.Alarm, is bool) {
	t.Helper()
	in := roomy(h)
	for range 2 {
		k, a, got := Pop(in)
		if !slices.Equal(k, want) || a != one || got != is {
			t.Fatalf("Pop of %s: %s, %d.%d, %t; want %s, %d.%d, %t", brief(h), brief(k), a.At, a.Id, got, brief(want), one.At, one.Id, is)
		}
		spoil(k, due(9, 9))
		wantUntouched(t, in, h, "Pop")
	}
}

// wantDue: what Due answers; the same, and in memory of its own, when it is asked again.
func wantDue(t *testing.T, h []api.Alarm, now uint64, want []api.Alarm, who []int) {
	t.Helper()
	in := roomy(h)
	for range 2 {
		k, l := Due(in, now)
		if !slices.Equal(k, want) || !slices.Equal(l, who) {
			t.Fatalf("Due of %s at %d: %s, %d; want %s, %d", brief(h), now, brief(k), l, brief(want), who)
		}
		spoil(k, due(9, 9))
		spoil(l, 99)
		wantUntouched(t, in, h, "Due")
	}
}

// wantDrop: what Drop answers; the same, and in memory of its own, when it is asked again.
func wantDrop(t *testing.T, h []api.Alarm, id int, want []api.Alarm) {
	t.Helper()
	in := roomy(h)
	for range 2 {
		k := Drop(in, id)
		if !slices.Equal(k, want) {
			t.Fatalf("Drop of %d from %s: %s; want %s", id, brief(h), brief(k), brief(want))
		}
		spoil(k, due(9, 9))
		wantUntouched(t, in, h, "Drop")
	}
}

// rows calls f with all rows of at most n alarms out of some.
func rows(some []api.Alarm, n int, f func(h []api.Alarm)) {
	h := make([]api.Alarm, 0, n)
	var longer func()
	longer = func() {
		f(slices.Clone(h))
		if len(h) == n {
			return
		}
		for _, a := range some {
			h = append(h, a)
			longer()
			h = h[:len(h)-1]
		}
	}
	longer()
}

// lot is any alarm: of a small time and Id, so that many are the same, or of any.
func lot(r *rand.Rand, small bool) api.Alarm {
	if small {
		return due(uint64(r.Intn(6)), r.Intn(4))
	}
	edges := []uint64{0, 1, math.MaxInt64, math.MaxInt64 + 1, math.MaxUint64 - 1, math.MaxUint64}
	if r.Intn(4) == 0 {
		return due(edges[r.Intn(len(edges))], int(r.Uint64()))
	}
	return due(r.Uint64(), int(edges[r.Intn(len(edges))]))
}

// lots are n of these.
func lots(r *rand.Rand, n int, small bool) []api.Alarm {
	var h []api.Alarm
	for range n {
		h = append(h, lot(r, small))
	}
	return h
}
