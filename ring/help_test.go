package ring

import (
	"bytes"
	"fmt"
	"testing"

	"stanchion/api"
)

// from is a span of a mode, from lo on, below hi.
func from(mode int, lo, hi string) api.Want {
	return api.Want{Mode: mode, Lo: lo, Hi: hi}
}

// one is the span of a key.
func one(mode int, key string) api.Want {
	return from(mode, key, key+"\x00")
}

// The spans that most tests take: the keys a, b and c, to read and to write, and all from a on, below c.
var (
	sa, xa = one(1, "a"), one(2, "a")
	sb, xb = one(1, "b"), one(2, "b")
	sc, xc = one(1, "c"), one(2, "c")
	sac    = from(1, "a", "c")
	xac    = from(2, "a", "c")
)

// hold is what a transaction holds.
func hold(txn int, w api.Want) api.Hold {
	return api.Hold{Txn: txn, W: w}
}

// claim is what a transaction waits for.
func claim(txn int, w api.Want, until uint64) api.Claim {
	return api.Claim{Txn: txn, W: w, Until: until}
}

// helds are locks that are held.
func helds(h ...api.Hold) []api.Hold {
	return h
}

// claims are a queue.
func claims(c ...api.Claim) []api.Claim {
	return c
}

// locks are those of two lists.
func locks(h []api.Hold, c []api.Claim) api.Locks {
	return api.Locks{Held: h, Queue: c}
}

// showWant tells a span.
func showWant(w api.Want) string {
	return fmt.Sprintf("%d[%.40q, %.40q)", w.Mode, w.Lo, w.Hi)
}

// show tells locks.
func show(l api.Locks) string {
	s := "held:"
	for _, h := range l.Held {
		s += fmt.Sprintf(" %d %s", h.Txn, showWant(h.W))
	}
	s += "; queue:"
	for _, c := range l.Queue {
		s += fmt.Sprintf(" %d %s until %d", c.Txn, showWant(c.W), c.Until)
	}
	return s
}

// alikeWants: are two spans the same?
func alikeWants(a, b api.Want) bool {
	return a.Mode == b.Mode && a.Lo == b.Lo && a.Hi == b.Hi
}

// alike: are two locks the same, one by one, in order, field by field?
func alike(a, b api.Locks) bool {
	if len(a.Held) != len(b.Held) || len(a.Queue) != len(b.Queue) {
		return false
	}
	for i, h := range a.Held {
		if g := b.Held[i]; h.Txn != g.Txn || !alikeWants(h.W, g.W) {
			return false
		}
	}
	for i, c := range a.Queue {
		if d := b.Queue[i]; c.Txn != d.Txn || c.Until != d.Until || !alikeWants(c.W, d.W) {
			return false
		}
	}
	return true
}

// toldBelow: is a key below another one, by their bytes?
func toldBelow(a, b string) bool {
	return bytes.Compare([]byte(a), []byte(b)) < 0
}

// toldIn: is a key in a span, as chapter 9 tells it?
func toldIn(w api.Want, key string) bool {
	return !toldBelow(key, w.Lo) && (w.Hi == "" || toldBelow(key, w.Hi))
}

// toldClash: have two spans a key of both, and is one of them ModeX? If there is such a key, one of the beginnings is one.
func toldClash(a, b api.Want) bool {
	both := false
	for _, k := range []string{a.Lo, b.Lo} {
		both = both || toldIn(a, k) && toldIn(b, k)
	}
	return both && (a.Mode == 2 || b.Mode == 2)
}

// copied is l with lists of its own.
func copied(l api.Locks) api.Locks {
	return locks(append(helds(), l.Held...), append(claims(), l.Queue...))
}

// What spare room is full of.
var (
	spareHold  = hold(77, from(2, "spare", "room"))
	spareClaim = claim(78, from(2, "spare", "room"), 79)
)

// roomy is a list with spare room behind it, which is full of a thing.
func roomy[T any](l []T, spare T) []T {
	return append(append(make([]T, 0, len(l)+4), l...), spare, spare, spare, spare)[:len(l)]
}

// roomyLocks are locks whose lists are roomy.
func roomyLocks(l api.Locks) api.Locks {
	return locks(roomy(l.Held, spareHold), roomy(l.Queue, spareClaim))
}

// wantUntouched: roomy locks are as they were, their spare room too.
func wantUntouched(t *testing.T, now, before api.Locks, what string) {
	t.Helper()
	if !alike(now, before) {
		t.Errorf("%s: handed in was %s, and is now %s", what, show(before), show(now))
	}
	held, queue := now.Held, now.Queue
	for i := range 4 {
		if held[:len(held)+4][len(held)+i] != spareHold || queue[:len(queue)+4][len(queue)+i] != spareClaim {
			t.Errorf("%s: the spare room behind %s was written into", what, show(before))
		}
	}
}
