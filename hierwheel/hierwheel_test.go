package hierwheel_test

import (
	"math"
	"slices"
	"strconv"
	"testing"

	"compline/api"
	"compline/hashwheel"
	"compline/hierwheel"
	"compline/queuetest"
)

func tm(at, seq uint64, place int) api.Timer { return api.Timer{At: at, Seq: seq, Place: place} }

// made is a queue in which these pend.
func made(t *testing.T, places, bits int, base uint64, l ...api.Timer) *hierwheel.Queue {
	t.Helper()
	q, e := hierwheel.New(places, bits, base)
	if e != api.OK || q == nil {
		t.Fatalf("New(%d, %d, %d): %v, %v", places, bits, base, q, e)
	}
	for _, x := range l {
		if e := q.Insert(x); e != api.OK {
			t.Fatalf("Insert(%v): %v", x, e)
		}
	}
	return q
}

// power is 2^n, n times doubled.
func power(n int) uint64 {
	p := uint64(1)
	for range n {
		p *= 2
	}
	return p
}

// spotOf is the level and the slot of a tick, as chapter 3 says them: levels are
// gone up till nothing differs above.
func spotOf(base, at uint64, bits int) (level, slot int) {
	if at <= base {
		return -1, 0
	}
	for base, at := base, at; level < 4; level++ {
		slot = int(at % power(bits))
		base, at = base/power(bits), at/power(bits)
		if base == at {
			return level, slot
		}
	}
	return 4, 0
}

// book are the timers that pend, as a plain list, and what the chapter says of
// the base and of cascades.
type book struct {
	bits     int
	base     uint64
	pend     []api.Timer
	cascades int
	// of is how often the timer at each place has cascaded since it was put there.
	of map[int]int
}

func newBook(bits int, base uint64, l ...api.Timer) *book {
	return &book{bits: bits, base: base, pend: slices.Clone(l), of: map[int]int{}}
}

// index is where in the book the one at a place stands, -1 if none pends there.
func (b *book) index(place int) int {
	return slices.IndexFunc(b.pend, func(x api.Timer) bool { return x.Place == place })
}

// due is what comes of a Due.
func (b *book) due(now uint64) []api.Timer {
	isDue := func(x api.Timer) bool { return x.At <= now }
	due := slices.DeleteFunc(queuetest.InOrder(b.pend), func(x api.Timer) bool { return !isDue(x) })
	b.pend = slices.DeleteFunc(b.pend, isDue)
	was := b.base
	b.base = max(b.base, now)
	for _, x := range b.pend {
		ahead, _ := spotOf(was, x.At, b.bits)
		behind, _ := spotOf(b.base, x.At, b.bits)
		if ahead >= 0 && ahead <= 3 && behind < ahead {
			b.cascades++
			b.of[x.Place]++
		}
	}
	return due
}

// check holds q against the book.
func (b *book) check(t *testing.T, q *hierwheel.Queue) {
	t.Helper()
	want := queuetest.InOrder(b.pend)
	if q.Cascades() != b.cascades || q.Base() != b.base {
		t.Fatalf("of %v, bits %d: %d cascades, base %d; want %d, %d", want, b.bits, q.Cascades(), q.Base(), b.cascades, b.base)
	}
	if l := q.All(); !slices.Equal(l, want) || q.Len() != len(want) {
		t.Fatalf("All: %v, Len: %d; want %v", l, q.Len(), want)
	}
	var first api.Timer
	if len(want) > 0 {
		first = want[0]
	}
	if x, ok := q.Min(); x != first || ok != (len(want) > 0) {
		t.Fatalf("of %v, bits %d, base %d, Min: %v, %v", want, b.bits, b.base, x, ok)
	}
	for _, x := range want {
		level, slot := spotOf(b.base, x.At, b.bits)
		if l, s, ok := q.Where(x.Place); l != level || s != slot || !ok {
			t.Fatalf("bits %d, base %d: %v lies at %d, %d, %v; want %d, %d", b.bits, b.base, x, l, s, ok, level, slot)
		}
	}
}

// doDue does it with both, and holds the answers against each other.
func (b *book) doDue(t *testing.T, q *hierwheel.Queue, now uint64) {
	t.Helper()
	was, base := queuetest.InOrder(b.pend), b.base
	want := b.due(now)
	if l := q.Due(now); !slices.Equal(l, want) {
		t.Fatalf("of %v, bits %d, base %d, Due(%d): %v; want %v", was, b.bits, base, now, l, want)
	}
	b.check(t, q)
}

// doInsert, doMove and doCancel, too.
func (b *book) doInsert(t *testing.T, q *hierwheel.Queue, x api.Timer) {
	t.Helper()
	want := api.OK
	if b.index(x.Place) >= 0 {
		want = api.ErrTwice
	} else {
		b.pend = append(b.pend, x)
		b.of[x.Place] = 0
	}
	if e := q.Insert(x); e != want {
		t.Fatalf("Insert(%v): %v; want %v", x, e, want)
	}
	b.check(t, q)
}

func (b *book) doMove(t *testing.T, q *hierwheel.Queue, x api.Timer) {
	t.Helper()
	want := api.ErrNone
	if i := b.index(x.Place); i >= 0 {
		want = api.OK
		b.pend[i] = x
		b.of[x.Place] = 0
	}
	if e := q.Move(x); e != want {
		t.Fatalf("Move(%v): %v; want %v", x, e, want)
	}
	b.check(t, q)
}

func (b *book) doCancel(t *testing.T, q *hierwheel.Queue, place int) {
	t.Helper()
	var was api.Timer
	want := api.ErrNone
	if i := b.index(place); i >= 0 {
		was, want = b.pend[i], api.OK
		b.pend = slices.Delete(b.pend, i, i+1)
	}
	if x, e := q.Cancel(place); x != was || e != want {
		t.Fatalf("Cancel(%d): %v, %v; want %v, %v", place, x, e, was, want)
	}
	b.check(t, q)
}

// Whatever there are of slots, and wherever the base began: what is told is what
// all queues tell.
func TestQueue(t *testing.T) {
	for _, x := range []struct {
		bits int
		base uint64
	}{{1, 0}, {1, 3}, {1, 15}, {2, 12}, {3, 1<<63 - 1}, {4, 1 << 32}, {5, api.Never - 1}, {6, 0}, {6, 4}, {6, api.Never}} {
		fresh := func(places int) (*hierwheel.Queue, api.Errno) {
			return hierwheel.New(places, x.bits, x.base)
		}
		t.Run("bits "+strconv.Itoa(x.bits)+" base "+strconv.FormatUint(x.base, 10), func(t *testing.T) {
			t.Parallel()
			for _, y := range queuetest.Checks(fresh) {
				t.Run(y.Name, func(t *testing.T) { y.Run(t) })
			}
		})
	}
}

// The example of the chapter, as it stands there.
func TestExample(t *testing.T) {
	x := tm(64*64+64+5, 0, 0)
	q := made(t, 1, 6, 0, x)
	if level, slot, ok := q.Where(0); level != 2 || slot != 1 || !ok {
		t.Errorf("Where: %d, %d, %v", level, slot, ok)
	}
	for _, y := range []struct {
		now                   uint64
		level, slot, cascades int
	}{
		{4096, 1, 1, 1},
		{4160, 0, 5, 2},
		{4164, 0, 5, 2},
	} {
		l := q.Due(y.now)
		level, slot, ok := q.Where(0)
		if len(l) != 0 || level != y.level || slot != y.slot || !ok || q.Cascades() != y.cascades || q.Base() != y.now {
			t.Errorf("Due(%d): %v; it lies at %d, %d, %v, %d cascades, base %d", y.now, l, level, slot, ok, q.Cascades(), q.Base())
		}
	}
	if l := q.Due(4165); !slices.Equal(l, []api.Timer{x}) || q.Cascades() != 2 {
		t.Errorf("Due(4165): %v, %d cascades", l, q.Cascades())
	}
	if level, slot, ok := q.Where(0); level != 0 || slot != 0 || ok {
		t.Errorf("Where, of none: %d, %d, %v", level, slot, ok)
	}
}

func TestNew(t *testing.T) {
	someBits := []int{math.MinInt, -1 << 32, -1, 0, 1, 2, 3, 4, 5, 6, 7, 8, 62, 63, 64, 1 << 32, 1<<32 + 1, math.MaxInt}
	somePlaces := []int{math.MinInt, -1 << 32, -1, 0, 1, 2, 1023, 1024, 1025, 1 << 32, 1<<32 + 1, math.MaxInt}
	for _, bits := range someBits {
		for _, places := range somePlaces {
			for _, base := range []uint64{0, 1, 1 << 63, api.Never} {
				want := api.OK
				if places < 0 || places > 1024 || bits < 1 || bits > 6 {
					want = api.ErrArg
				}
				q, e := hierwheel.New(places, bits, base)
				if e != want || (q == nil) != (want != api.OK) {
					t.Errorf("New(%d, %d, %d): %v, %v; want %v", places, bits, base, q, e, want)
				}
				if q != nil && (q.Base() != base || q.Cascades() != 0 || q.Len() != 0 || len(q.All()) != 0) {
					t.Errorf("New(%d, %d, %d): base %d, %d cascades, %v pend", places, bits, base, q.Base(), q.Cascades(), q.All())
				}
			}
		}
	}
}

// Each tick, as seen from each base, over more than two wheels: it lies where its
// digits say.
func TestWhereEachTick(t *testing.T) {
	for bits := 1; bits <= 3; bits++ {
		span := min(power(4*bits)*2+9, 600)
		for _, start := range []uint64{0, power(4*bits) - 7, power(4*bits) * 1000, api.Never - span} {
			for base := uint64(0); base < span; base += 1 + base/40 {
				b, q := newBook(bits, start+base), made(t, 1, bits, start+base)
				for at := range span {
					b.doInsert(t, q, tm(start+at, at, 0))
					b.doCancel(t, q, 0)
				}
			}
		}
	}
}

// Of all bits, just at the ends of slots, of levels, and of what the wheel sees.
func TestWhereAtEdges(t *testing.T) {
	for bits := 1; bits <= 6; bits++ {
		for _, start := range []uint64{0, power(4*bits) * 5, 1 << 63, api.Never - power(4*bits) + 1} {
			for base := range 5 {
				var l []api.Timer
				for level := range 5 {
					for _, n := range []uint64{1, 2, power(bits) - 1} {
						for d := range uint64(3) {
							l = append(l, tm(start+n*power(bits*level)+d-1, d, len(l)))
						}
					}
				}
				l = append(l, tm(api.Never, 1, len(l)), tm(0, 1, len(l)+1))
				b := newBook(bits, start+power(bits*base)-1)
				q := made(t, len(l), bits, b.base)
				for _, x := range l {
					b.doInsert(t, q, x)
				}
			}
		}
	}
}

// Where none pends there is nothing to tell, nor of a place that there is not.
func TestWhereNone(t *testing.T) {
	q := made(t, 4, 6, 70, tm(200, 0, 1), tm(300, 0, 2), tm(400, 0, 3))
	if _, e := q.Cancel(3); e != api.OK {
		t.Error(e)
	}
	q.Due(200)
	for _, place := range []int{math.MinInt, -1 << 32, -1, 0, 1, 3, 4, 5, 1024, 1 << 32, 1<<32 + 2, math.MaxInt} {
		if level, slot, ok := q.Where(place); level != 0 || slot != 0 || ok {
			t.Errorf("Where(%d): %d, %d, %v", place, level, slot, ok)
		}
	}
	if level, slot, ok := q.Where(2); level != 1 || slot != 4 || !ok {
		t.Errorf("Where(2): %d, %d, %v", level, slot, ok)
	}
}

// Each two ticks at which timers may be, each base, and each way from there on,
// over more than what a wheel of two slots a level sees.
func TestDueEachTwo(t *testing.T) {
	const far = 34
	for _, start := range []uint64{0, 1<<40 - 3, api.Never - far} {
		for base := uint64(0); base < far; base += 3 {
			for one := range uint64(far) {
				for other := one; other < far; other += 1 + one%3 {
					l := []api.Timer{tm(start+one, 1, 0), tm(start+other, 0, 1)}
					for now := uint64(0); now < far; now += 1 + other%4 {
						b, q := newBook(1, start+base, l...), made(t, 2, 1, start+base, l...)
						b.doDue(t, q, start+now)
						b.doDue(t, q, start+now+1)
					}
				}
			}
		}
	}
}

// A timer is due at its At, and not a tick sooner, however the base goes on; and
// it cascades three times at most.
func TestDueAtItsTick(t *testing.T) {
	for bits := 1; bits <= 6; bits++ {
		size := power(bits)
		for _, base := range []uint64{0, 1, size - 1, power(4*bits) - 1, power(4*bits) - size, 1<<63 - 3, api.Never - 2*power(4*bits)} {
			for _, ahead := range []uint64{1, 2, size - 1, size, size + 1, size*size - 1, power(3*bits) + size, power(4*bits) - 1, power(4 * bits), power(4*bits) + size*size + 1} {
				for _, steps := range []uint64{1, 2, 3, 7, 30, 100} {
					x := tm(base+ahead, 9, 0)
					b, q := newBook(bits, base, x), made(t, 1, bits, base, x)
					for i := range steps {
						b.doDue(t, q, base+(ahead-1)/steps*i)
					}
					b.doDue(t, q, x.At-1)
					if q.Len() != 1 || q.Cascades() > 3 {
						t.Fatalf("bits %d, base %d: %v: %d pend at %d, %d cascades", bits, base, x, q.Len(), x.At-1, q.Cascades())
					}
					b.doDue(t, q, x.At)
					if q.Len() != 0 || q.Cascades() > 3 {
						t.Fatalf("bits %d, base %d: %v did not come, or %d cascades", bits, base, x, q.Cascades())
					}
				}
			}
		}
	}
}

// From the last tick of the farthest slot on it goes down level by level; what
// was too far to be seen has not cascaded when it comes to be seen, to whatever
// level.
func TestCascadesLevelByLevel(t *testing.T) {
	for bits := 1; bits <= 6; bits++ {
		last := power(4*bits) - 1
		for _, first := range []uint64{0, power(4 * bits), 7 * power(4*bits), api.Never - last} {
			x := tm(first+last, 3, 0)
			q := made(t, 1, bits, first, x)
			if first > 0 {
				// One tick ahead of its wheel it is not seen.
				q = made(t, 1, bits, first-1, x)
				if level, slot, ok := q.Where(0); level != 4 || slot != 0 || !ok {
					t.Errorf("bits %d: %v lies at %d, %d, %v", bits, x, level, slot, ok)
				}
				q.Due(first)
			}
			for n := range 4 {
				level, slot, ok := q.Where(0)
				if level != 3-n || slot != 1<<bits-1 || !ok || q.Cascades() != n {
					t.Errorf("bits %d: %v lies at %d, %d, %v, %d cascades", bits, x, level, slot, ok, q.Cascades())
				}
				// A tick ahead of its slot's beginning nothing comes of it.
				begin := x.At - x.At%power(bits*(3-n))
				q.Due(begin - 1)
				if again, _, ok := q.Where(0); again != level || !ok || q.Cascades() != n {
					t.Errorf("bits %d: %v lies at %d, %v, %d cascades, a tick ahead of %d", bits, x, again, ok, q.Cascades(), begin)
				}
				if n < 3 {
					q.Due(begin)
				}
			}
			if l := q.Due(x.At); !slices.Equal(l, []api.Timer{x}) || q.Cascades() != 3 {
				t.Errorf("bits %d: %v, %d cascades", bits, l, q.Cascades())
			}
		}
	}
}

// One that falls by more than a level has cascaded once; those that are due, or
// ready, or come to be seen, or stay, have not; nor has one that is moved or
// cancelled.
func TestCascadesOnce(t *testing.T) {
	q := made(t, 10, 2, 0,
		tm(64+16+4+2, 0, 0), // level 3: it falls to level 0
		tm(64+16+12, 0, 1),  // level 3: to level 1
		tm(64+48, 0, 2),     // level 3: to level 2
		tm(64+16+5, 0, 3),   // level 3: it is due
		tm(128, 0, 4),       // level 3: it stays
		tm(60, 0, 5),        // level 2: it is due
		tm(256+64+16, 0, 6), // level 4: it stays
		tm(0, 0, 7),         // ready
		tm(1024, 0, 8),      // level 4, and moved
		tm(64+16+4+3, 0, 9)) // level 3, and cancelled
	if e := q.Move(tm(64+16+4+3, 0, 8)); e != api.OK || q.Cascades() != 0 {
		t.Errorf("Move: %v, %d cascades", e, q.Cascades())
	}
	if e := q.Move(tm(128+1, 0, 8)); e != api.OK || q.Cascades() != 0 {
		t.Errorf("Move: %v, %d cascades", e, q.Cascades())
	}
	if _, e := q.Cancel(9); e != api.OK || q.Cascades() != 0 {
		t.Errorf("Cancel: %v, %d cascades", e, q.Cascades())
	}
	if l := q.Due(64 + 16 + 5); !slices.Equal(l, []api.Timer{tm(0, 0, 7), tm(60, 0, 5), tm(85, 0, 3)}) || q.Cascades() != 3 {
		t.Errorf("%v, %d cascades", l, q.Cascades())
	}
	for place, level := range map[int]int{0: 0, 1: 1, 2: 2, 4: 3, 6: 4, 8: 3} {
		if l, _, ok := q.Where(place); l != level || !ok {
			t.Errorf("Where(%d): %d, %v; want %d", place, l, ok, level)
		}
	}
	// The wheel comes to see one, which then lies at a lower level, yet has not
	// cascaded; all others are due.
	if l := q.Due(256 + 64); len(l) != 5 || q.Cascades() != 3 {
		t.Errorf("%v, %d cascades", l, q.Cascades())
	}
	if l, s, ok := q.Where(6); l != 2 || s != 1 || !ok {
		t.Errorf("Where(6): %d, %d, %v", l, s, ok)
	}
}

// A whole slot may cascade at once, one that comes to be seen lies where it
// should, and what is told of ticks stays in order of Seq and of Place.
func TestManyCascade(t *testing.T) {
	for bits := 1; bits <= 6; bits++ {
		const places = 200
		slot := power(3 * bits)
		b, q := newBook(bits, 0), made(t, places, bits, 0)
		for place := range places {
			b.doInsert(t, q, tm(slot+uint64(place)*slot/places, uint64(place%3), place))
		}
		b.doDue(t, q, slot-1)
		for i := range uint64(20) {
			b.doDue(t, q, slot+i*slot/20)
		}
		b.doDue(t, q, 2*slot)
		if q.Len() != 0 {
			t.Errorf("bits %d: %v", bits, q.All())
		}
	}
}

// What is too far is kept in order, however it came, and comes to be seen wheel
// by wheel.
func TestFar(t *testing.T) {
	for bits := 1; bits <= 6; bits++ {
		wheel := power(4 * bits)
		var l []api.Timer
		for i := range uint64(40) {
			l = append(l, tm(wheel*(1+i*7%5)+i%3, i%4, int(i)))
		}
		l = append(l, tm(api.Never, 2, 40), tm(api.Never, 1, 41), tm(api.Never-wheel, 0, 42))
		b, q := newBook(bits, 0), made(t, len(l), bits, 0)
		for _, x := range l {
			b.doInsert(t, q, x)
		}
		b.doMove(t, q, tm(wheel*2-1, 0, 3))
		b.doMove(t, q, tm(wheel*20, 0, 7))
		b.doMove(t, q, tm(5, 0, 8))
		b.doCancel(t, q, 9)
		b.doCancel(t, q, 41)
		for _, now := range []uint64{4, wheel - 1, wheel, wheel + 1, 2*wheel - 2, 2*wheel - 1, 3*wheel + 1, 5 * wheel, 6 * wheel, 20*wheel - 1, 20 * wheel, api.Never - wheel - 1, api.Never - 1, api.Never} {
			b.doDue(t, q, now)
		}
		if q.Len() != 0 {
			t.Errorf("bits %d: %v", bits, q.All())
		}
	}
}

// One that is put in with an At no more than the base is ready: it is due as soon
// as it is asked for its tick, ahead of the base, too.
func TestReady(t *testing.T) {
	for _, base := range []uint64{4, 9, 1 << 63, api.Never} {
		for bits := 1; bits <= 6; bits++ {
			x, y := tm(base-3, 0, 0), tm(base, 5, 1)
			b, q := newBook(bits, base), made(t, 3, bits, base)
			b.doInsert(t, q, y)
			b.doInsert(t, q, x)
			for _, now := range []uint64{base - 4, base - 3, base - 1, base} {
				b.doDue(t, q, now)
			}
			if q.Len() != 0 || q.Base() != base || q.Cascades() != 0 {
				t.Errorf("base %d: %v, base %d, %d cascades", base, q.All(), q.Base(), q.Cascades())
			}
			// Of what is ready nothing is lost when the base goes on.
			b.doInsert(t, q, x)
			b.doDue(t, q, api.Never)
			if q.Len() != 0 || q.Base() != api.Never {
				t.Errorf("base %d: %v, base %d", base, q.All(), q.Base())
			}
		}
	}
}

// A Due of a tick that the base has gone by leaves the base, and all that lies in
// slots, as it was.
func TestDueOfThePast(t *testing.T) {
	for bits := 1; bits <= 6; bits++ {
		base := 5*power(4*bits) + power(2*bits) + 3
		b, q := newBook(bits, base), made(t, 60, bits, base)
		for i := range 60 {
			b.doInsert(t, q, tm(base-10+uint64(i*i), 1, i))
		}
		for _, now := range []uint64{0, 1, power(4 * bits), base - 11, base - 10, base - 8, base - 1, base, base} {
			b.doDue(t, q, now)
			if q.Base() != base || q.Cascades() != 0 {
				t.Errorf("bits %d, Due(%d): base %d, %d cascades", bits, now, q.Base(), q.Cascades())
			}
		}
	}
}

// At never no slot is beyond the end: what is there is due, and what is put in
// behind it is ready.
func TestAtNever(t *testing.T) {
	for bits := 1; bits <= 6; bits++ {
		for _, base := range []uint64{0, api.Never - power(4*bits), api.Never - power(4*bits) + 1, api.Never - 300, api.Never - 1} {
			b, q := newBook(bits, base), made(t, 3, bits, base)
			b.doInsert(t, q, tm(api.Never, 7, 0))
			b.doInsert(t, q, tm(api.Never-1, 7, 1))
			for _, now := range []uint64{api.Never - 2, api.Never - 1, api.Never, api.Never, 0} {
				b.doDue(t, q, now)
			}
			b.doInsert(t, q, tm(api.Never, 1, 2))
			for _, now := range []uint64{api.Never - 1, api.Never} {
				b.doDue(t, q, now)
			}
		}
	}
}

// No other call changes the base, or how many have cascaded, and neither does
// what is refused; nor does any of them change where the others lie.
func TestOtherCallsLeaveBaseAndCascades(t *testing.T) {
	b, q := newBook(2, 5), made(t, 6, 2, 5)
	for i, at := range []uint64{30, 31, 40, 100, 1000} {
		b.doInsert(t, q, tm(at, 0, i))
	}
	b.doDue(t, q, 29)
	if b.cascades != 2 || b.base != 29 {
		t.Fatalf("%d cascades, base %d", b.cascades, b.base)
	}
	refused := func(name string, e, want api.Errno) {
		t.Helper()
		if e != want {
			t.Errorf("%s: %v; want %v", name, e, want)
		}
		b.check(t, q)
	}
	for _, at := range []uint64{0, 29, 30, 60, 200, api.Never} {
		refused("Insert", q.Insert(tm(at, 0, 1)), api.ErrTwice)
		refused("Insert", q.Insert(tm(at, 0, 4)), api.ErrTwice)
		refused("Insert", q.Insert(tm(at, 0, 6)), api.ErrArg)
		refused("Insert", q.Insert(tm(at, 0, -1)), api.ErrArg)
		refused("Move", q.Move(tm(at, 0, 5)), api.ErrNone)
		refused("Move", q.Move(tm(at, 0, 6)), api.ErrArg)
		refused("Move", q.Move(tm(at, 0, math.MinInt)), api.ErrArg)
	}
	for place, want := range map[int]api.Errno{-1: api.ErrArg, 5: api.ErrNone, 6: api.ErrArg} {
		x, e := q.Cancel(place)
		if x != (api.Timer{}) {
			t.Errorf("Cancel(%d): %v", place, x)
		}
		refused("Cancel", e, want)
	}
	for place := range 6 {
		q.Get(place)
		q.Where(place)
	}
	b.check(t, q)
	b.doMove(t, q, tm(31, 3, 0))
	b.doMove(t, q, tm(2, 3, 1))
	b.doCancel(t, q, 2)
	b.doInsert(t, q, tm(10000, 3, 5))
	b.doMove(t, q, tm(999, 3, 5))
	b.doCancel(t, q, 4)
}

// shortOf is a tick ahead of one that pends, near it or far from it: what cascades
// often is never gone by on the way.
func shortOf(b *book, roll func(int) int) uint64 {
	if len(b.pend) == 0 {
		return b.base
	}
	at := b.pend[roll(len(b.pend))].At
	return max(at-min(at, 1+uint64(roll(int(power(b.bits*roll(4)))))), b.base)
}

// Long ways over each size, at ticks near the base, levels and wheels ahead: the
// base goes on, and what is told is what a plain list tells; no timer cascades
// more than three times.
func TestLongWays(t *testing.T) {
	const places = 40
	for bits := 1; bits <= 6; bits++ {
		wheel := power(4 * bits)
		most := 0
		for seed := range uint64(12) {
			roll := queuetest.Dice(seed)
			start := []uint64{3, 1<<63 - 200, api.Never - 40*wheel}[roll(3)]
			b, q := newBook(bits, start), made(t, places, bits, start)
			for range 600 {
				far := 1 + roll(int(power(bits*(1+roll(4)))))*(1+roll(2))
				x := tm(b.base+uint64(far)-uint64(roll(4)), uint64(roll(3)), roll(places))
				switch roll(8) {
				case 0, 1, 2, 3:
					b.doInsert(t, q, x)
				case 4:
					b.doMove(t, q, x)
				case 5:
					b.doCancel(t, q, x.Place)
				case 6:
					b.doDue(t, q, b.base+uint64(far/(1+roll(30)))-uint64(roll(2)))
				case 7:
					b.doDue(t, q, shortOf(b, roll))
				}
				for place, n := range b.of {
					most = max(most, n)
					if n > 3 {
						t.Fatalf("bits %d: the one at %d has cascaded %d times", bits, place, n)
					}
				}
			}
		}
		// Else that sentence would not have been tested.
		if most != 3 {
			t.Errorf("bits %d: none has cascaded more than %d times", bits, most)
		}
	}
}

// How many slots there are, and where the base began, makes no difference to
// what is due; and it is what is due in a wheel of chapter 10.
func TestSizeAndBaseMakeNoDifference(t *testing.T) {
	const places = 30
	ats := []uint64{0, 1, 7, 8, 9, 15, 16, 63, 64, 255, 256, 257, 1000, 4096, 1 << 16, 1 << 24, 1<<63 + 4, api.Never - 1, api.Never}
	var queues []queuetest.Queue
	for bits := 1; bits <= 6; bits++ {
		for _, base := range []uint64{0, 1, 8, 200, 1 << 20, api.Never} {
			hash, e := hashwheel.New(places, bits, base)
			if e != api.OK {
				t.Fatal(e)
			}
			queues = append(queues, made(t, places, bits, base), hash)
		}
	}
	roll := queuetest.Dice(5)
	for range 4000 {
		what, x := roll(6), tm(ats[roll(len(ats))]+uint64(roll(2)), uint64(roll(3)), roll(places))
		if what == 5 && roll(3) > 0 {
			x.At = uint64(roll(5000))
		}
		var first []api.Timer
		for i, q := range queues {
			var l []api.Timer
			switch what {
			case 0, 1, 2:
				q.Insert(x)
			case 3:
				q.Move(x)
			case 4:
				q.Cancel(x.Place)
			case 5:
				l = q.Due(x.At)
			}
			l = append(l, q.All()...)
			if i == 0 {
				first = l
			}
			if !slices.Equal(l, first) {
				t.Fatalf("call %d of %v, queue %d: %v; want %v", what, x, i, l, first)
			}
		}
	}
}
