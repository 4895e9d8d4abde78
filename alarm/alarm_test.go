package alarm

import (
	"math"
	"slices"
	"testing"

	"stanchion/api"
)

// TestP15_1Less: of alarms, of which each is earlier than the next one, each is earlier than all behind it, and than no other one, itself least of all: the time counts first, as a number that has no sign, then the Id, that has one.
func TestP15_1Less(t *testing.T) {
	all := row(
		due(0, math.MinInt), due(0, -1), due(0, 0), due(0, 1), due(0, math.MaxInt),
		due(1, math.MinInt), due(1, 1), due(1, 2), due(1, 1<<32), due(1, math.MaxInt),
		due(2, -5), due(3, 2), due(4, 1), due(5, 3),
		due(1<<32, 0), due(1<<32+1, -1),
		due(math.MaxInt64, 0), due(math.MaxInt64, math.MaxInt), due(math.MaxInt64+1, math.MinInt), due(math.MaxInt64+1, 7),
		due(math.MaxUint64-1, math.MaxInt), due(math.MaxUint64, math.MinInt), due(math.MaxUint64, 0), due(math.MaxUint64, math.MaxInt),
	)
	for i, a := range all {
		for j, b := range all {
			if is := Less(a, b); is != (i < j) {
				t.Errorf("Less(%v, %v): %t", a, b, is)
			}
		}
	}
}

// TestP15_1Heap: none, one, and a few; what stands beside another one doesn't count.
func TestP15_1Heap(t *testing.T) {
	for _, x := range []struct {
		h    []api.Alarm
		want bool
	}{
		{nil, true},
		{row(), true},
		{ats(5), true},
		{ats(1, 2), true},
		{ats(2, 1), false},
		{ats(1, 3, 2), true},
		{ats(1, 2, 3), true},
		{ats(2, 3, 1), false},
		{ats(2, 1, 3), false},
		{ats(1, 2, 9, 3, 4), true},
		{ats(1, 9, 2, 3), false},
		{ats(1, 5, 2, 6, 7, 3, 4), true},
		{ats(1, 5, 2, 6, 4, 3, 4), false},
		{ats(1, 5, 3, 6, 7, 2, 4), false},
		{ats(1, 5, 3, 6, 7, 4, 2), false},
		// The last one is earlier than all, and hangs on one far from the first.
		{ats(5, 6, 7, 6, 6, 4), false},
		// Alarms of one time: their Ids count.
		{row(due(4, 1), due(4, 2)), true},
		{row(due(4, 2), due(4, 1)), false},
		{row(due(4, 2), due(4, 2), due(4, 2)), true},
		{row(due(4, -1), due(4, 0), due(4, -2)), false},
		{row(due(math.MaxUint64, 0), due(0, 0)), false},
		{row(due(0, 0), due(math.MaxUint64, math.MinInt)), true},
	} {
		wantHeap(t, x.h, x.want)
	}
}

// TestP15_1HeapPlace: in heaps of all lengths one alarm, at each place, is a bit too early, or just not.
func TestP15_1HeapPlace(t *testing.T) {
	for n := range 40 {
		h := make([]api.Alarm, n)
		for i := range h {
			h[i] = due(uint64(10+i/3), i)
		}
		wantHeap(t, h, true)
		for i := 1; i < n; i++ {
			on := h[(i-1)/2]
			k := slices.Clone(h)
			k[i] = due(on.At, on.Id)
			wantHeap(t, k, true)
			k[i] = due(on.At, on.Id-1)
			wantHeap(t, k, false)
			k[i] = due(on.At-1, on.Id+1)
			wantHeap(t, k, false)
		}
	}
}

// TestP15_1Put: it rises as far as it is earlier, and no farther.
func TestP15_1Put(t *testing.T) {
	h := row(due(1, 1), due(5, 2), due(3, 3), due(9, 4), due(6, 5), due(4, 6))
	for _, x := range []struct {
		h    []api.Alarm
		a    api.Alarm
		want []api.Alarm
	}{
		{nil, due(7, 7), row(due(7, 7))},
		{row(), due(0, 0), row(due(0, 0))},
		{nil, due(math.MaxUint64, math.MinInt), row(due(math.MaxUint64, math.MinInt))},
		{row(due(5, 1)), due(3, 2), row(due(3, 2), due(5, 1))},
		{row(due(5, 1)), due(6, 2), row(due(5, 1), due(6, 2))},
		{row(due(5, 1), due(7, 2)), due(6, 3), row(due(5, 1), due(7, 2), due(6, 3))},
		{row(due(5, 1), due(7, 2)), due(4, 3), row(due(4, 3), due(7, 2), due(5, 1))},
		// Of one time: the less Id rises, the same one doesn't.
		{row(due(5, 2)), due(5, 1), row(due(5, 1), due(5, 2))},
		{row(due(5, 2)), due(5, 3), row(due(5, 2), due(5, 3))},
		{row(due(5, 2)), due(5, 2), row(due(5, 2), due(5, 2))},
		{row(due(5, 2)), due(5, -2), row(due(5, -2), due(5, 2))},
		// By no step, by one, by two.
		{h, due(7, 7), append(slices.Clone(h), due(7, 7))},
		{h, due(3, 3), append(slices.Clone(h), due(3, 3))},
		{h, due(3, 2), row(due(1, 1), due(5, 2), due(3, 2), due(9, 4), due(6, 5), due(4, 6), due(3, 3))},
		{h, due(1, 1), row(due(1, 1), due(5, 2), due(1, 1), due(9, 4), due(6, 5), due(4, 6), due(3, 3))},
		{h, due(1, 0), row(due(1, 0), due(5, 2), due(1, 1), due(9, 4), due(6, 5), due(4, 6), due(3, 3))},
		// No heap: what stands elsewhere stays, and who isn't earlier than the next one above rises no farther.
		{ats(9, 2), due(5, 3), row(due(5, 3), due(2, 2), due(9, 1))},
		{ats(9, 2, 8), due(5, 4), row(due(9, 1), due(2, 2), due(8, 3), due(5, 4))},
		{ats(9, 5, 8), due(5, 2), row(due(9, 1), due(5, 2), due(8, 3), due(5, 2))},
		{ats(9, 6, 8), due(5, 4), row(due(5, 4), due(9, 1), due(8, 3), due(6, 2))},
	} {
		wantPut(t, x.h, x.a, x.want)
	}
}

// TestP15_1Pop: the last one takes the first one's place, and sinks as long as one that hangs on it is earlier, by way of the earlier one.
func TestP15_1Pop(t *testing.T) {
	for _, x := range []struct{ h, want []api.Alarm }{
		{row(due(7, 7)), nil},
		{row(due(0, 0)), nil},
		{ats(1, 2), row(due(2, 2))},
		{ats(1, 2, 3), row(due(2, 2), due(3, 3))},
		{ats(1, 3, 2), row(due(2, 3), due(3, 2))},
		// To the left, to the right, and on.
		{ats(1, 2, 3, 4), row(due(2, 2), due(4, 4), due(3, 3))},
		{ats(1, 3, 2, 4), row(due(2, 3), due(3, 2), due(4, 4))},
		{ats(1, 2, 3, 4, 5, 6), row(due(2, 2), due(4, 4), due(3, 3), due(6, 6), due(5, 5))},
		{ats(1, 2, 3, 5, 4, 6), row(due(2, 2), due(4, 5), due(3, 3), due(5, 4), due(6, 6))},
		{ats(1, 5, 2, 6, 7, 3, 4), row(due(2, 3), due(5, 2), due(3, 6), due(6, 4), due(7, 5), due(4, 7))},
		// It stays above what isn't earlier.
		{ats(1, 2, 9, 8, 7, 9, 9, 9, 8, 7, 7), row(due(2, 2), due(7, 5), due(9, 3), due(8, 4), due(7, 10), due(9, 6), due(9, 7), due(9, 8), due(8, 9), due(7, 11))},
		{row(due(1, 1), due(4, 2), due(5, 3), due(4, 2)), row(due(4, 2), due(4, 2), due(5, 3))},
		// One alone hangs on the place that it comes to: it is earlier, or isn't.
		{ats(1, 2, 8, 3, 9, 8), row(due(2, 2), due(3, 4), due(8, 3), due(8, 6), due(9, 5))},
		{ats(1, 2, 8, 3, 4), row(due(2, 2), due(3, 4), due(8, 3), due(4, 5))},
		{ats(1, 2, 8, 4, 3), row(due(2, 2), due(3, 5), due(8, 3), due(4, 4))},
		// Of one time: the less Id is earlier.
		{row(due(1, 1), due(2, 5), due(2, 4), due(3, 3)), row(due(2, 4), due(2, 5), due(3, 3))},
		{row(due(1, 1), due(2, 4), due(2, 5), due(3, 3)), row(due(2, 4), due(3, 3), due(2, 5))},
		{row(due(1, 1), due(2, -4), due(2, -5), due(3, 3)), row(due(2, -5), due(2, -4), due(3, 3))},
		// Neither is earlier: it goes to the left.
		{row(due(0, 0), due(1, 1), due(1, 1), due(5, 1), due(6, 1), due(7, 1), due(8, 1), due(9, 1)), row(due(1, 1), due(5, 1), due(1, 1), due(9, 1), due(6, 1), due(7, 1), due(8, 1))},
		// No heap: the first one goes, whatever it is, and who isn't earlier than the one on which it hangs stays.
		{ats(9, 1), row(due(1, 2))},
		{ats(9, 1, 5), row(due(1, 2), due(5, 3))},
		{ats(9, 5, 1), row(due(1, 3), due(5, 2))},
		{ats(3, 5, 6, 1, 1, 1, 4), row(due(4, 7), due(5, 2), due(6, 3), due(1, 4), due(1, 5), due(1, 6))},
		{row(due(0, 0), due(4, 2), due(5, 3), due(1, 1), due(4, 2)), row(due(4, 2), due(4, 2), due(5, 3), due(1, 1))},
		{ats(3, 5, 4, 1, 1, 1, 9), row(due(4, 3), due(5, 2), due(1, 6), due(1, 4), due(1, 5), due(9, 7))},
	} {
		wantPop(t, x.h, x.want, x.h[0], true)
	}
	wantPop(t, nil, nil, api.Alarm{}, false)
	wantPop(t, row(), nil, api.Alarm{}, false)
}

// TestP15_2Due: all up to now, and now itself, in order.
func TestP15_2Due(t *testing.T) {
	h := row(due(1, 7), due(3, 2), due(1, 8), due(5, 1), due(3, 6), due(4, 3))
	top := row(due(math.MaxInt64, 1), due(math.MaxInt64+1, 2), due(math.MaxUint64, 3))
	for _, x := range []struct {
		h    []api.Alarm
		now  uint64
		want []api.Alarm
		who  []int
	}{
		{nil, 0, nil, nil},
		{row(), math.MaxUint64, nil, nil},
		{row(due(0, 4)), 0, nil, ids(4)},
		{row(due(1, 4)), 0, row(due(1, 4)), nil},
		{row(due(5, 4)), 4, row(due(5, 4)), nil},
		{row(due(5, 4)), 5, nil, ids(4)},
		{row(due(5, 4)), 6, nil, ids(4)},
		{h, 0, h, nil},
		{h, 1, row(due(3, 2), due(3, 6), due(4, 3), due(5, 1)), ids(7, 8)},
		{h, 2, row(due(3, 2), due(3, 6), due(4, 3), due(5, 1)), ids(7, 8)},
		{h, 3, row(due(4, 3), due(5, 1)), ids(7, 8, 2, 6)},
		{h, 4, row(due(5, 1)), ids(7, 8, 2, 6, 3)},
		{h, 5, nil, ids(7, 8, 2, 6, 3, 1)},
		{h, math.MaxUint64, nil, ids(7, 8, 2, 6, 3, 1)},
		// Ids come in the order of the alarms, and as often as they are there.
		{row(due(2, 3), due(2, 3), due(2, 5)), 2, nil, ids(3, 3, 5)},
		{row(due(2, -3), due(2, 5), due(2, 0)), 2, nil, ids(-3, 0, 5)},
		{row(due(0, 0), due(0, 0)), 0, nil, ids(0, 0)},
		// Times at which a sign would be.
		{top, math.MaxInt64 - 1, top, nil},
		{top, math.MaxInt64, row(due(math.MaxInt64+1, 2), due(math.MaxUint64, 3)), ids(1)},
		{top, math.MaxInt64 + 1, row(due(math.MaxUint64, 3)), ids(1, 2)},
		{top, math.MaxUint64 - 1, row(due(math.MaxUint64, 3)), ids(1, 2)},
		{top, math.MaxUint64, nil, ids(1, 2, 3)},
		// No heap: the first one alone tells whether it goes on.
		{ats(5, 1, 2), 4, ats(5, 1, 2), nil},
		{ats(5, 1, 2), 5, nil, ids(1, 2, 3)},
		{ats(2, 5, 6, 1, 9), 2, row(due(5, 2), due(1, 4), due(6, 3), due(9, 5)), ids(1)},
		{ats(2, 5, 6, 1, 9), 5, row(due(6, 3), due(9, 5)), ids(1, 2, 4)},
	} {
		wantDue(t, x.h, x.now, x.want, x.who)
	}
}

// TestP15_2Drop: all of an Id go, and the others are put anew, in the order in which they stand.
func TestP15_2Drop(t *testing.T) {
	h := row(due(1, 1), due(4, 2), due(2, 3), due(5, 4), due(6, 5), due(3, 6))
	for _, x := range []struct {
		h    []api.Alarm
		id   int
		want []api.Alarm
	}{
		{nil, 1, nil},
		{row(), 0, nil},
		{row(due(5, 1)), 1, nil},
		{row(due(5, 1)), 2, row(due(5, 1))},
		{row(due(0, 0)), 0, nil},
		{row(due(0, 0)), 1, row(due(0, 0))},
		{row(due(1, 2)), 1, row(due(1, 2))},
		{row(due(5, -1)), 1, row(due(5, -1))},
		{row(due(5, -1)), -1, nil},
		{row(due(5, math.MinInt), due(5, math.MaxInt)), math.MinInt, row(due(5, math.MaxInt))},
		{row(due(5, 1), due(5, 1<<32+1)), 1, row(due(5, 1<<32+1))},
		// The first one, the last one, one between, none.
		{h, 1, row(due(2, 3), due(3, 6), due(5, 4), due(6, 5), due(4, 2))},
		{h, 6, h[:5]},
		{h, 2, row(due(1, 1), due(2, 3), due(5, 4), due(6, 5), due(3, 6))},
		{h, 3, row(due(1, 1), due(3, 6), due(5, 4), due(6, 5), due(4, 2))},
		{h, 7, h},
		{h, 0, h},
		// Many of one Id, at any time.
		{row(due(1, 1), due(2, 2), due(1, 2), due(3, 1), due(4, 2), due(5, 1)), 2, row(due(1, 1), due(3, 1), due(5, 1))},
		{row(due(1, 1), due(2, 2), due(1, 2), due(3, 1), due(4, 2), due(5, 1)), 1, row(due(1, 2), due(2, 2), due(4, 2))},
		{row(due(1, 4), due(1, 4), due(9, 4)), 4, nil},
		{row(due(1, 1), due(1, 1), due(1, 1), due(2, 2)), 2, row(due(1, 1), due(1, 1), due(1, 1))},
		// No heap: what is left makes one.
		{ats(5, 4, 3, 2, 1), 9, row(due(1, 5), due(2, 4), due(4, 2), due(5, 1), due(3, 3))},
		{ats(5, 4, 3, 2, 1), 3, row(due(1, 5), due(2, 4), due(4, 2), due(5, 1))},
		{row(due(5, 1), due(1, 2), due(0, 3)), 3, row(due(1, 2), due(5, 1))},
	} {
		wantDrop(t, x.h, x.id, x.want)
	}
}

// TestExample: the chapter's.
func TestExample(t *testing.T) {
	var h []api.Alarm
	for _, a := range row(due(5, 1), due(3, 2), due(4, 3)) {
		h = Put(h, a)
	}
	wantDue(t, h, 4, row(due(5, 1)), ids(2, 3))
}
