package queuetest

import (
	"iter"
	"math"
	"slices"

	"compline/api"
)

// The example of chapter 7, as it stands there.
func checkExample(t T, fresh maker) {
	q := fresh.made(t, 3)
	for _, x := range []api.Timer{tm(5, 2, 0), tm(3, 1, 1), tm(5, 1, 2)} {
		if e := q.Insert(x); e != api.OK {
			t.Fatalf("Insert(%v): %v", x, e)
		}
	}
	if l := q.All(); !slices.Equal(l, []api.Timer{tm(3, 1, 1), tm(5, 1, 2), tm(5, 2, 0)}) {
		t.Errorf("All: %v", l)
	}
	if l := q.Due(4); !slices.Equal(l, []api.Timer{tm(3, 1, 1)}) {
		t.Errorf("Due(4): %v", l)
	}
	if x, ok := q.Min(); x != tm(5, 1, 2) || !ok {
		t.Errorf("Min: %v, %v", x, ok)
	}
	if e := q.Move(tm(9, 1, 2)); e != api.OK {
		t.Errorf("Move: %v", e)
	}
	if l := q.All(); !slices.Equal(l, []api.Timer{tm(5, 2, 0), tm(9, 1, 2)}) {
		t.Errorf("All: %v", l)
	}
}

func checkNew(t T, fresh maker) {
	for _, places := range []int{math.MinInt, -1 << 32, -1024, -1, 0, 1, 2, 1023, 1024, 1025, 2048, 1 << 32, 1<<32 + 1, math.MaxInt} {
		want := api.OK
		if places < 0 || places > 1024 {
			want = api.ErrArg
		}
		q, e := fresh(places)
		if e != want || (q == nil) != (want != api.OK) {
			t.Errorf("New(%d): %v, %v; want %v", places, q, e, want)
		}
		if q != nil {
			NewBook(places).Check(t, q)
		}
	}
}

// All that may pend in small queues, and each call there, right or wrong: of
// what is refused nothing comes.
func checkAllStates(t T, fresh maker) {
	for _, x := range []struct {
		places    int
		ats, seqs []uint64
		states    int
	}{
		{0, []uint64{0, 1}, []uint64{0, 1}, 1},
		{1, []uint64{0, 1, api.Never}, []uint64{0, 1, api.Never}, 1 + 3*3},
		{2, []uint64{0, 1, api.Never}, []uint64{0, 7}, (1 + 3*2) * (1 + 3*2)},
		{3, []uint64{1, 1 << 63}, []uint64{3, 4}, (1 + 2*2) * (1 + 2*2) * (1 + 2*2)},
		{4, []uint64{5, 6}, []uint64{0}, (1 + 2) * (1 + 2) * (1 + 2) * (1 + 2)},
	} {
		seen := map[string]bool{}
		ways := [][]call{nil}
		for len(ways) > 0 {
			way := ways[0]
			ways = ways[1:]
			b, _ := fresh.replayed(t, x.places, way)
			if seen[b.text()] {
				continue
			}
			seen[b.text()] = true
			for _, y := range b.calls(x.ats, x.seqs) {
				b, q := fresh.replayed(t, x.places, way)
				got := b.do(t, q, y)
				b.Check(t, q)
				if got.e == api.OK {
					ways = append(ways, append(slices.Clone(way), y))
				}
			}
		}
		if len(seen) != x.states {
			t.Errorf("of %d places: %d states; want %d", x.places, len(seen), x.states)
		}
	}
}

// All ways that a few calls may go: what is told does not hang on the way on
// which it came to pend so.
func checkAllWays(t T, fresh maker) {
	var further func(places, calls int, ats, seqs []uint64, way []call)
	further = func(places, calls int, ats, seqs []uint64, way []call) {
		b, q := fresh.replayed(t, places, way)
		b.Check(t, q)
		if calls == 0 {
			return
		}
		for _, x := range b.calls(ats, seqs) {
			if asked(b.copied(), x).e == api.OK {
				further(places, calls-1, ats, seqs, append(slices.Clone(way), x))
			}
		}
	}
	further(2, 4, []uint64{0, 9}, []uint64{1, 2}, nil)
	further(3, 4, []uint64{4, api.Never}, []uint64{0}, nil)
	further(4, 4, []uint64{4}, []uint64{8}, nil)
}

// Dice are numbers in no order, the same ones each time.
func Dice(seed uint64) func(n int) int {
	return func(n int) int {
		seed = seed*6364136223846793005 + 1442695040888963407
		return int(seed>>33) % n
	}
}

// Long ways, in no order, of more places, at few ticks and at far ones.
func checkLongWays(t T, fresh maker) {
	far := []uint64{0, 1, 2, 1<<32 - 1, 1 << 32, 1<<63 - 1, 1 << 63, 1<<63 + 1, api.Never - 1, api.Never}
	for _, places := range []int{1, 5, 17, 60} {
		for seed := range uint64(8) {
			b, q := NewBook(places), fresh.made(t, places)
			roll := Dice(seed)
			number := func() uint64 {
				if seed%2 == 0 {
					return far[roll(len(far))]
				}
				return uint64(roll(40))
			}
			for range 400 {
				what := []int{toInsert, toInsert, toInsert, toInsert, toInsert, toInsert, toMove, toMove, toMove, toCancel, toCancel, toDue}[roll(12)]
				x := call{what, tm(number(), number(), roll(places))}
				// What is due at a far tick would leave nothing: mostly it is near.
				if what == toDue && roll(4) > 0 {
					x.t.At = uint64(roll(6))
				}
				b.do(t, q, x)
				b.Check(t, q)
			}
		}
	}
}

// What is wrong is told in the order of the call's sentences, and changes
// nothing.
func checkFirstError(t T, fresh maker) {
	b, q := fresh.replayed(t, 4, put(tm(3, 3, 1), tm(2, 9, 2)))
	refused := func(x call, want api.Errno) {
		t.Helper()
		if e := asked(q, x).e; e != want {
			t.Errorf("%v: %v; want %v", x, e, want)
		}
		b.Check(t, q)
	}
	for _, place := range []int{math.MinInt, -1 << 32, -1, 4, 5, 6, 1024, 1 << 32, 1<<32 + 1, 1<<32 + 2, math.MaxInt} {
		for _, what := range []int{toInsert, toCancel, toMove} {
			refused(call{what, tm(0, 0, place)}, api.ErrArg)
			refused(call{what, tm(api.Never, api.Never, place)}, api.ErrArg)
		}
	}
	for _, place := range []int{1, 2} {
		refused(call{toInsert, tm(0, 0, place)}, api.ErrTwice)
		refused(call{toInsert, b.pend[place-1]}, api.ErrTwice)
		refused(call{toInsert, tm(api.Never, 0, place)}, api.ErrTwice)
	}
	for _, place := range []int{0, 3} {
		refused(call{toCancel, tm(0, 0, place)}, api.ErrNone)
		refused(call{toMove, tm(0, 0, place)}, api.ErrNone)
		refused(call{toMove, tm(api.Never, 0, place)}, api.ErrNone)
	}
}

// A queue without places refuses each one, and has nothing to tell.
func checkNoPlaces(t T, fresh maker) {
	b, q := NewBook(0), fresh.made(t, 0)
	for _, place := range farAndNear(0) {
		for _, what := range []int{toInsert, toCancel, toMove} {
			if got := b.do(t, q, call{what, tm(1, 1, place)}); got.e != api.ErrArg {
				t.Errorf("of place %d: %v", place, got)
			}
		}
	}
	b.do(t, q, call{toDue, tm(api.Never, 0, 0)})
	b.Check(t, q)
}

// What is due comes in order; behind it none is due, and what is not due pends
// on: at each tick beside one at which a timer is.
func checkDue(t T, fresh maker) {
	ats := []uint64{0, 1, 5, 1 << 63, api.Never - 1, api.Never}
	var way []call
	for i, x := range ats {
		way = append(way, put(tm(x, 2, i), tm(x, 1, i+len(ats)), tm(x, 2, i+2*len(ats)))...)
	}
	for _, at := range ats {
		for _, now := range []uint64{at - 1, at, at + 1} {
			b, q := fresh.replayed(t, len(way), way)
			due := b.do(t, q, call{toDue, tm(now, 0, 0)}).l
			b.Check(t, q)
			for i := range due {
				if due[i].At > now || i > 0 && !before(due[i-1], due[i]) {
					t.Errorf("Due(%d): %v", now, due)
				}
			}
			if x, some := q.Min(); some && x.At <= now {
				t.Errorf("behind Due(%d): %v", now, x)
			}
			if again := q.Due(now); len(again) != 0 {
				t.Errorf("Due(%d) again: %v", now, again)
			}
			if len(due)+q.Len() != len(way) {
				t.Errorf("Due(%d): %d, and %d pend", now, len(due), q.Len())
			}
		}
	}
}

// What was due pends no longer: its place is as if none had ever pended there.
func checkDueLeavesPlaces(t T, fresh maker) {
	b, q := fresh.replayed(t, 3, put(tm(4, 1, 0), tm(2, 2, 1), tm(9, 3, 2)))
	for _, x := range []call{
		{toDue, tm(4, 0, 0)},
		{toCancel, tm(0, 0, 0)},
		{toMove, tm(1, 1, 1)},
		{toInsert, tm(1, 9, 0)},
		{toInsert, tm(9, 2, 1)},
		{toDue, tm(9, 0, 0)},
		{toInsert, tm(0, 0, 2)},
	} {
		b.do(t, q, x)
		b.Check(t, q)
	}
}

// A timer that is moved is as if it were cancelled and inserted, wherever it
// goes: before all, between each two, behind all, or where it was.
func checkMoved(t T, fresh maker) {
	way := put(tm(2, 5, 0), tm(4, 5, 1), tm(4, 6, 2), tm(4, 5, 3), tm(8, 0, 4))
	for place := range 5 {
		for at := range uint64(10) {
			for seq := range uint64(8) {
				b, one := fresh.replayed(t, 6, way)
				c, other := fresh.replayed(t, 6, way)
				x := tm(at, seq, place)
				b.do(t, one, call{toMove, x})
				c.do(t, other, call{toCancel, x})
				c.do(t, other, call{toInsert, x})
				if !slices.Equal(one.All(), other.All()) {
					t.Errorf("%v: %v; %v", x, one.All(), other.All())
				}
				b.Check(t, one)
				b.Check(t, other)
			}
		}
	}
}

// orders are all orders in which the timers may stand.
func orders(l []api.Timer) iter.Seq[[]api.Timer] {
	return func(yield func([]api.Timer) bool) {
		if len(l) == 0 {
			yield(nil)
			return
		}
		for i, x := range l {
			for rest := range orders(slices.Delete(slices.Clone(l), i, i+1)) {
				if !yield(append([]api.Timer{x}, rest...)) {
					return
				}
			}
		}
	}
}

// Whichever came first, all are in order, of one tick and of one Seq, too; and
// whichever is cancelled then, or moved to wherever, the others stay so. There
// are six: of fewer a heap has no two branches such that the last one of all may
// be before one of the other branch.
func checkEachOrder(t T, fresh maker) {
	l := []api.Timer{tm(1, 9, 4), tm(2, 1, 0), tm(2, 1, 3), tm(2, 2, 1), tm(4, 0, 2), tm(5, 0, 5)}
	// One that stands wrong at the very end of a heap is set right when it is the
	// next one to be taken: so some later ones are put behind it.
	late := put(tm(8, 0, 6), tm(8, 0, 7), tm(8, 0, 8))
	for done := range orders(l) {
		way := put(done...)
		b, q := fresh.replayed(t, len(l), way)
		b.Check(t, q)
		b.drain(t, q)
		for place := range l {
			changes := []call{{toCancel, tm(0, 0, place)}}
			for at := range uint64(7) {
				changes = append(changes, call{toMove, tm(at, 1, place)})
			}
			for _, x := range changes {
				b, q := fresh.replayed(t, len(l)+len(late), slices.Concat(way, []call{x}, late))
				b.drain(t, q)
			}
		}
	}
}

// The most places that there may be, filled from either end, and in no order.
func checkMost(t T, fresh maker) {
	const most = api.MaxPlaces
	for _, at := range []func(i int) uint64{
		func(i int) uint64 { return uint64(i) },
		func(i int) uint64 { return uint64(most - i) },
		func(i int) uint64 { return uint64(i * 389 % most) },
		func(i int) uint64 { return 7 },
	} {
		b, q := NewBook(most), fresh.made(t, most)
		for i := range most {
			b.do(t, q, call{toInsert, tm(at(i), uint64(i%3), i)})
		}
		b.Check(t, q)
		for i := 0; i < most; i += 2 {
			b.do(t, q, call{toMove, tm(at(i)/2, uint64(i%5), i)})
		}
		for i := 0; i < most; i += 3 {
			b.do(t, q, call{toCancel, tm(0, 0, i)})
		}
		b.Check(t, q)
		b.do(t, q, call{toDue, tm(most/2, 0, 0)})
		b.Check(t, q)
		b.do(t, q, call{toDue, tm(most, 0, 0)})
		b.Check(t, q)
		if q.Len() != 0 {
			t.Errorf("Len: %d", q.Len())
		}
	}
}

// spoiled has its elements, and what is behind them in its memory, spoiled.
func spoiled(l []api.Timer) {
	l = l[:cap(l)]
	for i := range l {
		l[i] = tm(77, 77, 77)
	}
}

// What is told in lists is new memory: it goes on neither with the queue, nor
// with what that tells another time.
func checkNothingShared(t T, fresh maker) {
	b, q := fresh.replayed(t, 6, put(tm(5, 1, 3), tm(2, 2, 0), tm(7, 3, 5), tm(2, 4, 4)))
	all := b.All()
	one, other := q.All(), q.All()
	spoiled(one)
	if !slices.Equal(other, all) {
		t.Errorf("All: %v", other)
	}
	b.Check(t, q)
	due := q.Due(2)
	want := asked(b, call{toDue, tm(2, 0, 0)}).l
	for _, x := range []call{{toInsert, tm(1, 1, 0)}, {toMove, tm(9, 9, 3)}, {toCancel, tm(0, 0, 5)}, {toInsert, tm(3, 3, 4)}, {toDue, tm(3, 0, 0)}} {
		b.do(t, q, x)
		if !slices.Equal(due, want) || !slices.Equal(other, all) {
			t.Errorf("behind %v: %v, %v", x, due, other)
		}
	}
	spoiled(due)
	spoiled(other)
	b.Check(t, q)
	b.do(t, q, call{toDue, tm(api.Never, 0, 0)})
	// A list without timers may still have memory behind it.
	none := [][]api.Timer{q.Due(api.Never), q.All()}
	b.do(t, q, call{toInsert, tm(1, 1, 2)})
	b.do(t, q, call{toInsert, tm(3, 1, 1)})
	for _, l := range none {
		spoiled(l)
	}
	b.Check(t, q)
}

// Two queues go their own ways.
func checkQueuesApart(t T, fresh maker) {
	way := put(tm(5, 1, 0), tm(4, 1, 2))
	a, one := fresh.replayed(t, 4, way)
	b, other := fresh.replayed(t, 4, way)
	for _, x := range []call{{toMove, tm(6, 0, 2)}, {toInsert, tm(1, 1, 1)}, {toCancel, tm(0, 0, 0)}, {toDue, tm(9, 0, 0)}} {
		a.do(t, one, x)
		a.Check(t, one)
		b.Check(t, other)
	}
}
