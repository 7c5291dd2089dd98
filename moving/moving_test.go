package moving_test

import (
	"math"
	"slices"
	"testing"

	"compline/api"
	"compline/moving"
	"compline/queuetest"
)

func tm(at, seq uint64, place int) api.Timer { return api.Timer{At: at, Seq: seq, Place: place} }

var kinds = []int{api.KindList, api.KindHeap, api.KindPair, api.KindHash, api.KindWheel}

// made is a pair in which these pend.
func made(t *testing.T, kind, places, step int, l ...api.Timer) *moving.Pair {
	t.Helper()
	p, e := moving.New(kind, places, 2, 0, step)
	if e != api.OK || p == nil {
		t.Fatalf("New(%d, %d, 2, 0, %d): %v, %v", kind, places, step, p, e)
	}
	for _, x := range l {
		if e := p.Insert(x); e != api.OK {
			t.Fatalf("kind %d: Insert(%v): %v", kind, x, e)
		}
	}
	return p
}

// begun is a pair in which these pend, and are old.
func begun(t *testing.T, from, to, places, step int, l ...api.Timer) *moving.Pair {
	t.Helper()
	p := made(t, from, places, step, l...)
	if e := p.Start(to); e != api.OK || p.Left() != len(l) {
		t.Fatalf("from kind %d, Start(%d): %v, and %d left of %d", from, to, e, p.Left(), len(l))
	}
	return p
}

// eachWay tells all two kinds between which timers may move.
func eachWay(tell func(from, to int)) {
	for _, from := range kinds {
		for _, to := range kinds {
			if from != to {
				tell(from, to)
			}
		}
	}
}

// row are so many timers, place by place, whose ticks are in no order.
func row(n int) []api.Timer {
	var l []api.Timer
	for i := range n {
		l = append(l, tm(uint64(i*29%41), uint64(i%3), i))
	}
	return l
}

// bookOf is a book in which these pend.
func bookOf(places int, l ...api.Timer) *queuetest.Book {
	b := queuetest.NewBook(places)
	for _, x := range l {
		b.Insert(x)
	}
	return b
}

// left holds how many are old against what is wanted.
func left(t *testing.T, p *moving.Pair, behind string, want int) {
	t.Helper()
	if n := p.Left(); n != want {
		t.Errorf("kind %d, behind %s: %d left; want %d", p.Kind(), behind, n, want)
	}
}

// The example, as it stands in the chapter, to the heap from each other kind.
func TestExample(t *testing.T) {
	for _, from := range kinds {
		if from == api.KindHeap {
			continue
		}
		p := begun(t, from, api.KindHeap, 6, 2, tm(5, 0, 0), tm(4, 0, 1), tm(3, 0, 2), tm(2, 0, 3), tm(1, 0, 4))
		if e := p.Insert(tm(9, 0, 5)); e != api.OK {
			t.Errorf("Insert: %v", e)
		}
		left(t, p, "Insert", 3)
		if e := p.Start(api.KindList); e != api.ErrBusy {
			t.Errorf("Start: %v", e)
		}
		if n := p.Step(); n != 2 {
			t.Errorf("Step: %d", n)
		}
		if x, e := p.Cancel(0); x != tm(5, 0, 0) || e != api.OK {
			t.Errorf("Cancel: %v, %v", x, e)
		}
		left(t, p, "Cancel", 0)
		if n := p.Step(); n != 0 {
			t.Errorf("Step, when nothing is left: %d", n)
		}
	}
}

// What is wrong is told in the order of the sentences: the kind, places and bits, and
// then the step.
func TestNew(t *testing.T) {
	far := []int{math.MinInt, -1 << 32, -1, 0, 1, 2, 4, 5, 6, 7, 63, 64, 65, 1024, 1025, 1<<32 + 1, math.MaxInt}
	for _, kind := range far {
		for _, places := range far {
			for _, bits := range far {
				for _, step := range far {
					want := api.OK
					if kind < 0 || kind > 4 {
						want = api.ErrKind
					} else if places < 0 || places > 1024 || bits < 1 || bits > 6 || step < 1 || step > 64 {
						want = api.ErrArg
					}
					p, e := moving.New(kind, places, bits, api.Never, step)
					if e != want || (p == nil) != (want != api.OK) {
						t.Fatalf("New(%d, %d, %d, Never, %d): %v, %v; want %v", kind, places, bits, step, p, e, want)
					}
					if p != nil && (p.Kind() != kind || p.Len() != 0 || p.Left() != 0 || p.Step() != 0) {
						t.Fatalf("New(%d, %d, %d, Never, %d): kind %d, %d pend, %d left", kind, places, bits, step, p.Kind(), p.Len(), p.Left())
					}
				}
			}
		}
	}
}

// A kind that there is not is told ahead of old ones; old ones, even if the kind is
// the pair's own.
func TestStart(t *testing.T) {
	eachWay(func(from, to int) {
		p := begun(t, from, to, 4, 1, tm(3, 0, 0), tm(2, 0, 1))
		for _, kind := range []int{math.MinInt, -1 << 32, -1, 0, 1, 2, 3, 4, 5, 6, 1 << 32, 1<<32 + 1, math.MaxInt} {
			want := api.ErrBusy
			if kind < 0 || kind > 4 {
				want = api.ErrKind
			}
			if e := p.Start(kind); e != want || p.Kind() != to {
				t.Errorf("from kind %d to %d, Start(%d): %v, and kind %d", from, to, kind, e, p.Kind())
			}
			left(t, p, "Start that was refused", 2)
		}
		p.Step()
		if e := p.Start(from); e != api.ErrBusy || p.Kind() != to {
			t.Errorf("from kind %d to %d, Start with one old: %v", from, to, e)
		}
		p.Step()
		for _, x := range []struct {
			kind int
			e    api.Errno
			left int
		}{{5, api.ErrKind, 0}, {to, api.OK, 0}, {-1, api.ErrKind, 0}, {from, api.OK, 2}} {
			if e := p.Start(x.kind); e != x.e || p.Left() != x.left {
				t.Errorf("from kind %d to %d, then Start(%d): %v, and %d left", from, to, x.kind, e, p.Left())
			}
		}
		if p.Kind() != from {
			t.Errorf("from kind %d to %d and back: %d", from, to, p.Kind())
		}
	})
}

// None pends, so none is old: Start answers OK as often as it is asked, and what is
// put in then is not old.
func TestStartOfNone(t *testing.T) {
	for _, places := range []int{0, 1} {
		p := made(t, api.KindList, places, 1)
		for range 2 {
			for _, kind := range kinds {
				if e := p.Start(kind); e != api.OK || p.Kind() != kind || p.Left() != 0 || p.Step() != 0 {
					t.Errorf("Start(%d): %v, kind %d, %d left", kind, e, p.Kind(), p.Left())
				}
				queuetest.NewBook(places).Check(t, p)
			}
		}
		for _, place := range []int{-1, places, 1 << 32} {
			if e := p.Insert(tm(1, 1, place)); e != api.ErrArg {
				t.Errorf("Insert at %d of %d places: %v", place, places, e)
			}
			if x, e := p.Cancel(place); x != (api.Timer{}) || e != api.ErrArg {
				t.Errorf("Cancel(%d) of %d places: %v, %v", place, places, x, e)
			}
			if e := p.Move(tm(1, 1, place)); e != api.ErrArg {
				t.Errorf("Move at %d of %d places: %v", place, places, e)
			}
		}
	}
	eachWay(func(from, to int) {
		p := begun(t, from, to, 2, 1)
		for place := range 2 {
			if e := p.Insert(tm(4, 0, place)); e != api.OK {
				t.Errorf("Insert: %v", e)
			}
			left(t, p, "Insert", 0)
		}
	})
}

// So many Steps as there are steps of timers, and none is old; each but the last one
// moves a whole step, and none moves one of what is old no longer.
func TestStepsEnd(t *testing.T) {
	eachWay(func(from, to int) {
		for _, step := range []int{1, 2, 7, 63, api.MaxStep} {
			for _, n := range []int{0, 1, step - 1, step, step + 1, 2 * step, 100} {
				l := row(n)
				p := begun(t, from, to, n, step, l...)
				for old := n; old > 0; old -= step {
					left(t, p, "some Steps", old)
					if moved := p.Step(); moved != min(step, old) {
						t.Errorf("from kind %d to %d, a step of %d, %d left: moved %d", from, to, step, old, moved)
					}
					if !slices.Equal(p.All(), queuetest.InOrder(l)) || p.Len() != n {
						t.Errorf("from kind %d to %d, a step of %d: All: %v", from, to, step, p.All())
					}
				}
				left(t, p, "all Steps", 0)
				if moved := p.Step(); moved != 0 {
					t.Errorf("from kind %d to %d, a step of %d, none left: moved %d", from, to, step, moved)
				}
			}
		}
	})
}

// cancel is what Cancel tells of a place beside the timer.
func cancel(p *moving.Pair, place int) api.Errno {
	_, e := p.Cancel(place)
	return e
}

// refuse does what is wrong with a pair of so many places, of which the first one has
// one that pends, and the last one none; and what only asks.
func refuse(t *testing.T, p *moving.Pair, places int) {
	t.Helper()
	for i, x := range []struct{ e, want api.Errno }{
		{p.Insert(tm(1, 1, -1)), api.ErrArg},
		{p.Insert(tm(1, 1, places)), api.ErrArg},
		{p.Insert(tm(1, 1, 0)), api.ErrTwice},
		{cancel(p, -1), api.ErrArg},
		{cancel(p, places), api.ErrArg},
		{cancel(p, places-1), api.ErrNone},
		{p.Move(tm(1, 1, -1)), api.ErrArg},
		{p.Move(tm(1, 1, places)), api.ErrArg},
		{p.Move(tm(1, 1, places-1)), api.ErrNone},
		{p.Start(5), api.ErrKind},
	} {
		if x.e != x.want {
			t.Errorf("kind %d, refused call %d: %v; want %v", p.Kind(), i, x.e, x.want)
		}
	}
	p.Get(0)
	p.Min()
	p.Len()
	p.All()
}

// ender is a way to end a moving: what is done each time, and how many old ones that
// takes out beside the step.
type ender struct {
	name  string
	do    func(p *moving.Pair, i int) api.Errno
	takes int
}

// enders have free places from this one on down.
func enders(free int) []ender {
	last := func(p *moving.Pair) int { return p.All()[p.Len()-1].Place }
	return []ender{
		{"Insert", func(p *moving.Pair, i int) api.Errno { return p.Insert(tm(uint64(i), 0, free-i)) }, 0},
		{"Insert and Cancel", func(p *moving.Pair, i int) api.Errno {
			if i%2 == 0 {
				return p.Insert(tm(1000, 0, free))
			}
			return cancel(p, free)
		}, 0},
		{"Insert and Move", func(p *moving.Pair, i int) api.Errno {
			if i == 0 {
				return p.Insert(tm(1000, 0, free))
			}
			return p.Move(tm(uint64(2000*i), 0, free))
		}, 0},
		{"Cancel of the last old one", func(p *moving.Pair, i int) api.Errno { return cancel(p, last(p)) }, 1},
		{"Move of the last old one", func(p *moving.Pair, i int) api.Errno { return p.Move(tm(0, 0, last(p))) }, 1},
	}
}

// Each call that answers OK moves a step, so as many of them as there are steps end
// it. Those that are refused move none, nor do those that only ask.
func TestCallsEnd(t *testing.T) {
	const n, places = 20, 50
	eachWay(func(from, to int) {
		for _, way := range enders(places - 2) {
			for step := 1; step <= n+1; step++ {
				p := begun(t, from, to, places, step, row(n)...)
				old, calls := n, 0
				for ; old > 0; calls++ {
					refuse(t, p, places)
					left(t, p, "what is refused", old)
					if e := way.do(p, calls); e != api.OK {
						t.Fatalf("from kind %d to %d: %s: %v", from, to, way.name, e)
					}
					old = max(0, old-way.takes-step)
					left(t, p, way.name, old)
				}
				if most := (n + step - 1) / step; calls > most {
					t.Errorf("from kind %d to %d, a step of %d: %s: %d calls", from, to, step, way.name, calls)
				}
				refuse(t, p, places)
			}
		}
	})
}

// Those that are due come from both engines, in order, old or not; and no step is done.
func TestDueOfBoth(t *testing.T) {
	const places = 60
	eachWay(func(from, to int) {
		for steps := range 5 {
			p, b := begun(t, from, to, places, 13, row(places)...), bookOf(places, row(places)...)
			for range steps {
				p.Step()
			}
			// Some of the others come to stand among the old ones.
			for place := 0; place < places; place += 7 {
				x := tm(uint64(place*31%43), 1, place)
				p.Move(x)
				b.Move(x)
			}
			old := p.Left()
			for _, now := range []uint64{0, 3, 3, 20, 10, 40} {
				want := b.Due(now)
				if l := p.Due(now); !slices.Equal(l, want) {
					t.Errorf("from kind %d to %d, behind %d steps, Due(%d): %v; want %v", from, to, steps, now, l, want)
				}
				if n := p.Left(); n > old || n < old-len(want) || p.Len() == 0 && n > 0 {
					t.Errorf("from kind %d to %d, behind %d steps, Due(%d): %d left of %d", from, to, steps, now, n, old)
				}
				old = p.Left()
				b.Check(t, p)
			}
		}
	})
}

// The old ones are due, and none is old: Start answers OK again, and what is put in
// then is not old.
func TestDueEnds(t *testing.T) {
	eachWay(func(from, to int) {
		for steps := range 3 {
			p := begun(t, from, to, 5, 2, row(5)...)
			for range steps {
				p.Step()
			}
			old := p.Left()
			if l := p.Due(api.Never); len(l) != 5 || p.Left() != 0 || p.Len() != 0 {
				t.Errorf("from kind %d to %d, %d old: %v, and %d left", from, to, old, l, p.Left())
			}
			p.Insert(tm(api.Never, 0, 4))
			left(t, p, "Due and Insert", 0)
			if e := p.Start(from); e != api.OK || p.Left() != 1 {
				t.Errorf("from kind %d to %d and back: %v, and %d left", from, to, e, p.Left())
			}
		}
	})
}

// What is told in lists is new memory, behind its end, too, while timers move.
func TestNothingShared(t *testing.T) {
	spoil := func(l []api.Timer) {
		l = l[:cap(l)]
		for i := range l {
			l[i] = tm(77, 77, 77)
		}
	}
	eachWay(func(from, to int) {
		for steps := range 4 {
			p, b := begun(t, from, to, 9, 3, row(9)...), bookOf(9, row(9)...)
			for range steps {
				p.Step()
			}
			spoil(p.All())
			b.Check(t, p)
			one, want := p.Due(20), b.Due(20)
			other := p.All()
			spoil(p.All())
			p.Step()
			p.Due(30)
			if !slices.Equal(one, want) || !slices.Equal(other, b.All()) {
				t.Errorf("from kind %d to %d, %d steps: %v, %v", from, to, steps, one, other)
			}
			spoil(one)
			spoil(other)
			b.Due(30)
			b.Check(t, p)
		}
	})
}

// Two pairs go their own ways.
func TestPairsApart(t *testing.T) {
	eachWay(func(from, to int) {
		one, other := begun(t, from, to, 6, 2, row(6)...), begun(t, from, to, 6, 2, row(6)...)
		one.Step()
		one.Cancel(5)
		left(t, other, "a Step of the other one", 6)
		one.Due(api.Never)
		one.Start(from)
		if l := other.All(); !slices.Equal(l, queuetest.InOrder(row(6))) || other.Kind() != to {
			t.Errorf("from kind %d to %d: %v, and kind %d", from, to, l, other.Kind())
		}
		left(t, other, "a Start of the other one", 6)
	})
}

// The most places, and the most that one step may move.
func TestMost(t *testing.T) {
	const most = api.MaxPlaces
	eachWay(func(from, to int) {
		p, b := begun(t, from, to, most, api.MaxStep, row(most)...), bookOf(most, row(most)...)
		for range most / api.MaxStep {
			if n := p.Step(); n != api.MaxStep {
				t.Errorf("from kind %d to %d: moved %d", from, to, n)
			}
		}
		left(t, p, "all Steps", 0)
		b.Check(t, p)
	})
}
