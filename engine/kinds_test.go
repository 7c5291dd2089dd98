package engine_test

import (
	"slices"
	"testing"

	"compline/api"
	"compline/engine"
	"compline/queuetest"
)

// The calls that change something.
const (
	toInsert = iota
	toCancel
	toMove
	toDue
	toTake
)

// taker is an engine, or a book.
type taker interface {
	queuetest.Queue
	Take(n int) []api.Timer
}

// call is one that changes something: t is what is put, its Place the place and its
// At the tick that is asked for; n is how many are to be taken.
type call struct {
	what int
	t    api.Timer
	n    int
}

// told is what is told of a call, and of all that pends behind it.
type told struct {
	l, all []api.Timer
	e      api.Errno
}

func (a told) same(b told) bool {
	return a.e == b.e && slices.Equal(a.l, b.l) && slices.Equal(a.all, b.all)
}

func ask(q taker, x call) told {
	var a told
	switch x.what {
	case toInsert:
		a.e = q.Insert(x.t)
	case toCancel:
		t, e := q.Cancel(x.t.Place)
		a.l, a.e = []api.Timer{t}, e
	case toMove:
		a.e = q.Move(x.t)
	case toDue:
		a.l = q.Due(x.t.At)
	case toTake:
		a.l = q.Take(x.n)
	}
	a.all = q.All()
	return a
}

// ways are calls in no order: at few ticks, at ticks that go on, or at far ones;
// some are wrong.
func ways(seed uint64, places int) func() call {
	roll := queuetest.Dice(seed)
	now := uint64(0)
	tick := []func() uint64{
		func() uint64 { return uint64(roll(40)) },
		func() uint64 { return now + uint64(roll(700)) - uint64(roll(3)) },
		func() uint64 {
			far := []uint64{0, 8, 64, 255, 256, 1 << 12, 1 << 20, 1<<63 - 1, 1 << 63, api.Never - 1, api.Never}
			return far[roll(len(far))]
		},
	}[seed%3]
	return func() call {
		x := call{t: tm(tick(), uint64(roll(4)), roll(places+2)-1), n: roll(5) - 1}
		x.what = []int{toInsert, toInsert, toInsert, toInsert, toInsert, toCancel, toMove, toMove, toDue, toTake}[roll(10)]
		// What is due at a far tick would leave nothing: mostly it is near.
		if x.what == toDue && roll(4) > 0 {
			now += uint64(roll(30))
			x.t.At = now
		}
		return x
	}
}

// Engines of all kinds, of all sizes of wheels, from several bases, tell the same
// whatever is done with them, and tell what a plain list does.
func TestKindsTellTheSame(t *testing.T) {
	const places = 30
	for seed := range uint64(12) {
		b := queuetest.NewBook(places)
		var engines []*engine.Engine
		for _, kind := range kinds {
			for bits := 1; bits <= 6; bits++ {
				for _, base := range []uint64{0, 9, 1 << 20, api.Never} {
					engines = append(engines, made(t, kind, places, bits, base))
				}
			}
		}
		next := ways(seed, places)
		for i := range 400 {
			x := next()
			want := ask(b, x)
			for j, e := range engines {
				if got := ask(e, x); !got.same(want) {
					t.Fatalf("seed %d, call %d, %v, engine %d, of kind %d: %v; want %v", seed, i, x, j, e.Kind(), got, want)
				}
			}
			if i%10 == 0 {
				for _, e := range engines {
					b.Check(t, e)
				}
			}
		}
	}
}

// pass takes all out of one engine, so many at a time, and puts them into another:
// meanwhile both together have what the book has.
func pass(t *testing.T, b *queuetest.Book, from, to *engine.Engine, few int) {
	t.Helper()
	for from.Len() > 0 {
		for _, x := range from.Take(few) {
			if e := to.Insert(x); e != api.OK {
				t.Fatalf("from kind %d to kind %d: Insert(%v): %v", from.Kind(), to.Kind(), x, e)
			}
		}
		if l := slices.Concat(to.All(), from.All()); !slices.Equal(l, b.All()) {
			t.Fatalf("from kind %d to kind %d: %v; want %v", from.Kind(), to.Kind(), l, b.All())
		}
	}
	b.Check(t, to)
}

// What is taken out of an engine and put into another one, of any kind, goes on
// there as if nothing had happened; and what came of it can come back.
func TestGoesOnElsewhere(t *testing.T) {
	const places = 40
	for _, from := range kinds {
		for _, to := range kinds {
			for seed := range uint64(9) {
				roll := queuetest.Dice(seed + 100)
				next := ways(seed, places)
				b, e := queuetest.NewBook(places), made(t, from, places, 1+roll(6), uint64(roll(300)))
				for range 12 {
					for range 30 {
						x := next()
						if got, want := ask(e, x), ask(b, x); !got.same(want) {
							t.Fatalf("kinds %d and %d, seed %d, %v: %v; want %v", from, to, seed, x, got, want)
						}
					}
					b.Check(t, e)
					kind := to
					if e.Kind() == to {
						kind = from
					}
					other := made(t, kind, places, 1+roll(6), uint64(roll(300)))
					pass(t, b, e, other, 1+roll(9))
					e = other
				}
			}
		}
	}
}

// Those that are due come from both engines, when some have been passed on: each
// tells its own, in order, and nothing is due twice.
func TestDueOfBoth(t *testing.T) {
	const places = 60
	for _, from := range kinds {
		for _, to := range kinds {
			var l []api.Timer
			for i := range places {
				l = append(l, tm(uint64(i*29%41), uint64(i%3), i))
			}
			for few := 0; few <= places; few += 11 {
				b := newBook(t, places, l...)
				one, other := made(t, from, places, 1, 0, l...), made(t, to, places, 2, 7, l[:0]...)
				for _, x := range one.Take(few) {
					other.Insert(x)
				}
				for _, now := range []uint64{0, 3, 20, 40} {
					due := queuetest.InOrder(slices.Concat(one.Due(now), other.Due(now)))
					if want := b.Due(now); !slices.Equal(due, want) {
						t.Fatalf("kinds %d and %d, %d passed, Due(%d): %v; want %v", from, to, few, now, due, want)
					}
				}
			}
		}
	}
}
