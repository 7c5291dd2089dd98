package engine_test

import (
	"math"
	"slices"
	"strconv"
	"testing"

	"compline/api"
	"compline/engine"
	"compline/queuetest"
)

func tm(at, seq uint64, place int) api.Timer { return api.Timer{At: at, Seq: seq, Place: place} }

var kinds = []int{api.KindList, api.KindHeap, api.KindPair, api.KindHash, api.KindWheel}

// made is an engine in which these pend.
func made(t *testing.T, kind, places, bits int, base uint64, l ...api.Timer) *engine.Engine {
	t.Helper()
	e, err := engine.New(kind, places, bits, base)
	if err != api.OK || e == nil {
		t.Fatalf("New(%d, %d, %d, %d): %v, %v", kind, places, bits, base, e, err)
	}
	for _, x := range l {
		if err := e.Insert(x); err != api.OK {
			t.Fatalf("kind %d: Insert(%v): %v", kind, x, err)
		}
	}
	return e
}

// newBook is a book in which these pend.
func newBook(t *testing.T, places int, l ...api.Timer) *queuetest.Book {
	t.Helper()
	b := queuetest.NewBook(places)
	for _, x := range l {
		if err := b.Insert(x); err != api.OK {
			t.Fatalf("Insert(%v): %v", x, err)
		}
	}
	return b
}

// take does it with both, and holds the answers against each other.
func take(t *testing.T, b *queuetest.Book, e *engine.Engine, n int) []api.Timer {
	t.Helper()
	was := b.All()
	want := b.Take(n)
	if l := e.Take(n); !slices.Equal(l, want) {
		t.Fatalf("kind %d, of %v, Take(%d): %v; want %v", e.Kind(), was, n, l, want)
	}
	b.Check(t, e)
	return want
}

// Each kind is a queue, as the chapters 7 to 11 say it, whatever bits and base are.
func TestQueue(t *testing.T) {
	for _, kind := range kinds {
		for _, x := range []struct {
			bits int
			base uint64
		}{{1, 0}, {3, 5}, {6, api.Never}} {
			fresh := func(places int) (*engine.Engine, api.Errno) {
				return engine.New(kind, places, x.bits, x.base)
			}
			for _, y := range queuetest.Checks(fresh) {
				t.Run(strconv.Itoa(kind)+","+strconv.Itoa(x.bits)+y.Name, func(t *testing.T) {
					t.Parallel()
					y.Run(t)
				})
			}
		}
	}
}

// The example, as it stands in the chapter.
func TestExample(t *testing.T) {
	for _, kind := range kinds {
		five, three, four := tm(5, 0, 0), tm(3, 0, 1), tm(4, 0, 2)
		e := made(t, kind, 3, 1, 0, five, three, four)
		if l := e.Take(2); !slices.Equal(l, []api.Timer{three, four}) {
			t.Errorf("kind %d, Take(2): %v", kind, l)
		}
		if l := e.Due(9); !slices.Equal(l, []api.Timer{five}) {
			t.Errorf("kind %d, Due(9): %v", kind, l)
		}
	}
}

// What is wrong with the kind is told first; what is wrong with places or bits is
// wrong for every kind.
func TestNew(t *testing.T) {
	far := []int{math.MinInt, -1 << 32, -1, 0, 1, 2, 3, 4, 5, 6, 7, 8, 62, 63, 64, 1023, 1024, 1025, 1 << 32, 1<<32 + 1, math.MaxInt}
	for _, kind := range far {
		for _, places := range far {
			for _, bits := range far {
				for _, base := range []uint64{0, 1 << 63, api.Never} {
					want := api.OK
					if kind < 0 || kind > 4 {
						want = api.ErrKind
					} else if places < 0 || places > 1024 || bits < 1 || bits > 6 {
						want = api.ErrArg
					}
					e, err := engine.New(kind, places, bits, base)
					if err != want || (e == nil) != (want != api.OK) {
						t.Fatalf("New(%d, %d, %d, %d): %v, %v; want %v", kind, places, bits, base, e, err, want)
					}
					if e != nil && (e.Kind() != kind || e.Len() != 0) {
						t.Fatalf("New(%d, %d, %d, %d): kind %d, %d pend", kind, places, bits, base, e.Kind(), e.Len())
					}
				}
			}
		}
	}
}

// An engine's kind is the same, whatever is done with it.
func TestKindStays(t *testing.T) {
	for _, kind := range kinds {
		e := made(t, kind, 4, 2, 3, tm(1, 1, 0), tm(5, 2, 1), tm(90, 3, 2))
		for i, do := range []func(){
			func() { e.Move(tm(7, 7, 0)) },
			func() { e.Cancel(1) },
			func() { e.Take(1) },
			func() { e.Due(api.Never) },
			func() { e.Insert(tm(0, 0, 9)) },
		} {
			do()
			if e.Kind() != kind {
				t.Errorf("kind %d, behind call %d: %d", kind, i, e.Kind())
			}
		}
	}
}

// numbers are those that Take may be asked for, of n that pend.
func numbers(n int) []int {
	l := []int{math.MinInt, -1 << 32, -n}
	for i := -2; i <= n+2; i++ {
		l = append(l, i)
	}
	return append(l, 2*n, api.MaxPlaces+1, 1<<32, 1<<32+1, math.MaxInt)
}

// filled are all ways in which timers of these ticks and Seqs may pend at places.
func filled(places int, ats, seqs []uint64) [][]api.Timer {
	ways := [][]api.Timer{nil}
	for place := range places {
		for _, way := range slices.Clone(ways) {
			for _, at := range ats {
				for _, seq := range seqs {
					ways = append(ways, append(slices.Clone(way), tm(at, seq, place)))
				}
			}
		}
	}
	return ways
}

// All that may pend in small engines, and each number: the first ones are taken in
// order, and pend no longer; the others pend on, and the places are free.
func TestTake(t *testing.T) {
	for _, x := range []struct {
		places    int
		ats, seqs []uint64
	}{
		{0, nil, nil},
		{1, []uint64{0, 9, api.Never}, []uint64{0, api.Never}},
		{2, []uint64{3, 4, api.Never}, []uint64{1, 2}},
		{3, []uint64{8, 80}, []uint64{1, 2}},
		{4, []uint64{5, 6}, []uint64{0}},
	} {
		for _, l := range filled(x.places, x.ats, x.seqs) {
			for _, kind := range kinds {
				for _, n := range numbers(len(l)) {
					b, e := newBook(t, x.places, l...), made(t, kind, x.places, 1, 4, l...)
					for _, y := range take(t, b, e, n) {
						if _, err := e.Cancel(y.Place); err != api.ErrNone {
							t.Errorf("kind %d: Cancel(%d), which was taken: %v", kind, y.Place, err)
						}
						if err := e.Move(y); err != api.ErrNone {
							t.Errorf("kind %d: Move(%v), which was taken: %v", kind, y, err)
						}
						if err := e.Insert(y); err != api.OK {
							t.Errorf("kind %d: Insert(%v), which was taken: %v", kind, y, err)
						}
						b.Insert(y)
						b.Check(t, e)
					}
				}
			}
		}
	}
}

// Take by take the timers come in order, however many at a time: of one tick by
// their Seq, of one Seq by their places, far or near, due or not.
func TestTakeAFewAtATime(t *testing.T) {
	const places = 300
	for _, kind := range kinds {
		for _, base := range []uint64{0, 70, 1 << 40, api.Never} {
			for _, few := range []int{1, 2, 7, api.MaxStep, places - 1, places} {
				var l []api.Timer
				for i := range places {
					at := []uint64{uint64(i * 37 % 50), 60 + uint64(i%9), 1<<40 + uint64(i%40), api.Never - uint64(i%2)}[i%4]
					l = append(l, tm(at, uint64(i*7%5), i))
				}
				b, e := newBook(t, places, l...), made(t, kind, places, 3, base, l...)
				var taken []api.Timer
				for b.Len() > 0 {
					taken = append(taken, take(t, b, e, few)...)
				}
				if !slices.Equal(taken, queuetest.InOrder(l)) {
					t.Errorf("kind %d, base %d, %d at a time: %v", kind, base, few, taken)
				}
				take(t, b, e, few)
			}
		}
	}
}

// The most places that there may be.
func TestTakeOfMost(t *testing.T) {
	const most = api.MaxPlaces
	for _, kind := range kinds {
		var l []api.Timer
		for i := range most {
			l = append(l, tm(uint64(i*389%most), uint64(i%3), i))
		}
		b, e := newBook(t, most, l...), made(t, kind, most, 6, 0, l...)
		for _, n := range []int{1, 300, most, most} {
			take(t, b, e, n)
		}
		for _, x := range l {
			if err := e.Insert(x); err != api.OK {
				t.Fatalf("kind %d: Insert(%v): %v", kind, x, err)
			}
		}
		if l := e.Take(most); len(l) != most || e.Len() != 0 {
			t.Errorf("kind %d, Take(%d): %d; %d pend", kind, most, len(l), e.Len())
		}
	}
}

// Who takes a far one has not gone on to its tick: what is nearer comes at its own.
func TestTakeIsNoDue(t *testing.T) {
	for _, kind := range kinds {
		for bits := 1; bits <= 6; bits++ {
			for _, far := range []uint64{12, 1000, 1 << 40, api.Never} {
				b, e := newBook(t, 3, tm(far, 1, 0)), made(t, kind, 3, bits, 0, tm(far, 1, 0))
				take(t, b, e, 1)
				for place, at := range []uint64{far, 9, 8} {
					b.Insert(tm(at, 1, place))
					e.Insert(tm(at, 1, place))
				}
				b.Check(t, e)
				for _, now := range []uint64{7, 8, 9, far - 1, far} {
					if l, want := e.Due(now), b.Due(now); !slices.Equal(l, want) {
						t.Errorf("kind %d, bits %d, Due(%d): %v; want %v", kind, bits, now, l, want)
					}
					b.Check(t, e)
				}
			}
		}
	}
}

// What Take tells is new memory, behind its end, too.
func TestTakeSharesNothing(t *testing.T) {
	for _, kind := range kinds {
		for _, n := range []int{-1, 0, 1, 2, 4, 9} {
			l := []api.Timer{tm(5, 1, 3), tm(2, 2, 0), tm(70, 3, 5), tm(2, 4, 4)}
			b, e := newBook(t, 6, l...), made(t, kind, 6, 1, 0, l...)
			one, want := e.Take(n), b.Take(n)
			all := e.All()
			other := e.Take(1)
			first := b.Take(1)
			one = one[:cap(one)]
			for i := range one {
				one[i] = tm(77, 77, 77)
			}
			if !slices.Equal(other, first) || !slices.Equal(all, slices.Concat(first, b.All())) {
				t.Errorf("kind %d, Take(%d): then %v, and All %v", kind, n, other, all)
			}
			b.Check(t, e)
			for _, x := range want {
				e.Insert(x)
				b.Insert(x)
			}
			if !slices.Equal(other, first) {
				t.Errorf("kind %d, Take(%d), and then Take(1), changed to %v", kind, n, other)
			}
			b.Check(t, e)
		}
	}
}

// Two engines go their own ways.
func TestEnginesApart(t *testing.T) {
	for _, kind := range kinds {
		l := []api.Timer{tm(5, 1, 0), tm(4, 1, 2)}
		b, one, other := newBook(t, 4, l...), made(t, kind, 4, 1, 0, l...), made(t, kind, 4, 1, 0, l...)
		take(t, b, one, 1)
		newBook(t, 4, l...).Check(t, other)
		take(t, b, one, 1)
		newBook(t, 4, l...).Check(t, other)
	}
}
