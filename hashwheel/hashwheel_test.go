package hashwheel_test

import (
	"math"
	"slices"
	"strconv"
	"testing"

	"compline/api"
	"compline/hashwheel"
	"compline/queuetest"
)

func tm(at, seq uint64, place int) api.Timer { return api.Timer{At: at, Seq: seq, Place: place} }

// made is a queue in which these pend.
func made(t *testing.T, places, bits int, base uint64, l ...api.Timer) *hashwheel.Queue {
	t.Helper()
	q, e := hashwheel.New(places, bits, base)
	if e != api.OK || q == nil {
		t.Fatalf("New(%d, %d, %d): %v, %v", places, bits, base, q, e)
	}
	for _, x := range l {
		if e := q.Insert(x); e != api.OK {
			t.Fatalf("Insert(%v): %v", x, e)
		}
	}
	return q
}

// Whatever there are of slots, and wherever the base began: what is told is what
// all queues tell.
func TestQueue(t *testing.T) {
	for _, x := range []struct {
		bits int
		base uint64
	}{{1, 0}, {1, 3}, {1, 7}, {2, 12}, {3, 1<<63 - 1}, {4, 1 << 32}, {5, api.Never - 1}, {6, 0}, {6, 4}, {6, api.Never}} {
		fresh := func(places int) (*hashwheel.Queue, api.Errno) {
			return hashwheel.New(places, x.bits, x.base)
		}
		t.Run("bits "+strconv.Itoa(x.bits)+" base "+strconv.FormatUint(x.base, 10), func(t *testing.T) {
			t.Parallel()
			for _, y := range queuetest.Checks(fresh) {
				t.Run(y.Name, func(t *testing.T) { y.Run(t) })
			}
		})
	}
}

// The example of the chapter, as it stands there.
func TestExample(t *testing.T) {
	one, other := tm(5, 0, 0), tm(13, 0, 1)
	q := made(t, 2, 1, 0, one, other)
	for _, x := range []struct {
		now    uint64
		due    []api.Timer
		looked int
		base   uint64
	}{
		{4, nil, 0, 4},
		{6, []api.Timer{one}, 1, 6},
		{13, []api.Timer{other}, 1, 13},
		{9, nil, 0, 13},
	} {
		l := q.Due(x.now)
		if !slices.Equal(l, x.due) || q.Looked() != x.looked || q.Base() != x.base {
			t.Errorf("Due(%d): %v, looked into %d, base %d; want %v", x.now, l, q.Looked(), q.Base(), x)
		}
	}
}

func TestNew(t *testing.T) {
	someBits := []int{math.MinInt, -1 << 32, -1, 0, 1, 2, 3, 4, 5, 6, 7, 8, 62, 63, 64, 1 << 32, 1<<32 + 1, math.MaxInt}
	somePlaces := []int{math.MinInt, -1 << 32, -1, 0, 1, 2, 1023, 1024, 1025, 1 << 32, 1<<32 + 1, math.MaxInt}
	for _, bits := range someBits {
		for _, places := range somePlaces {
			for _, base := range []uint64{0, 1, 1 << 63, api.Never} {
				want := api.OK
				if places < 0 || places > 1024 || bits < 1 || bits > 6 {
					want = api.ErrArg
				}
				q, e := hashwheel.New(places, bits, base)
				if e != want || (q == nil) != (want != api.OK) {
					t.Errorf("New(%d, %d, %d): %v, %v; want %v", places, bits, base, q, e, want)
				}
				if q != nil && (q.Base() != base || q.Looked() != 0 || q.Len() != 0 || len(q.All()) != 0) {
					t.Errorf("New(%d, %d, %d): base %d, looked into %d, %v pend", places, bits, base, q.Base(), q.Looked(), q.All())
				}
			}
		}
	}
}

// book are the timers that pend, as a plain list, and what the chapter says of
// slots, the base, and what was looked into.
type book struct {
	slots, base uint64
	looked      int
	pend        []api.Timer
}

func newBook(bits int, base uint64, l ...api.Timer) *book {
	return &book{slots: 1 << (bits + 2), base: base, pend: slices.Clone(l)}
}

// met are the slots of the ticks from the base + 1 to now: each of these ticks
// is asked, up to so many that each slot was met.
func (b *book) met(now uint64) map[uint64]bool {
	met := map[uint64]bool{}
	if now <= b.base {
		return met
	}
	for n := uint64(1); n <= min(now-b.base, b.slots); n++ {
		met[(b.base+n)%b.slots] = true
	}
	return met
}

// due is what comes of a Due.
func (b *book) due(now uint64) []api.Timer {
	met, into := b.met(now), map[uint64]bool{}
	for _, x := range b.pend {
		if x.At > b.base && met[x.At%b.slots] {
			into[x.At%b.slots] = true
		}
	}
	b.looked = len(into)
	b.base = max(b.base, now)
	isDue := func(x api.Timer) bool { return x.At <= now }
	due := slices.DeleteFunc(queuetest.InOrder(b.pend), func(x api.Timer) bool { return !isDue(x) })
	b.pend = slices.DeleteFunc(b.pend, isDue)
	return due
}

// check holds q against the book.
func (b *book) check(t *testing.T, q *hashwheel.Queue) {
	t.Helper()
	want := queuetest.InOrder(b.pend)
	if q.Looked() != b.looked || q.Base() != b.base {
		t.Fatalf("of %v: looked into %d, base %d; want %d, %d", want, q.Looked(), q.Base(), b.looked, b.base)
	}
	if l := q.All(); !slices.Equal(l, want) || q.Len() != len(want) {
		t.Fatalf("All: %v, Len: %d; want %v", l, q.Len(), want)
	}
	var first api.Timer
	if len(want) > 0 {
		first = want[0]
	}
	if x, ok := q.Min(); x != first || ok != (len(want) > 0) {
		t.Fatalf("of %v, Min: %v, %v", want, x, ok)
	}
}

// doDue does it with both, and holds the answers against each other.
func (b *book) doDue(t *testing.T, q *hashwheel.Queue, now uint64) {
	t.Helper()
	was, base := queuetest.InOrder(b.pend), b.base
	want := b.due(now)
	if l := q.Due(now); !slices.Equal(l, want) || q.Looked() != b.looked || q.Base() != b.base {
		t.Fatalf("of %v, %d slots, base %d, Due(%d): %v, looked into %d, base %d; want %v, %d, %d",
			was, b.slots, base, now, l, q.Looked(), q.Base(), want, b.looked, b.base)
	}
	ticks := uint64(0)
	if now > base {
		ticks = now - base
	}
	if n := q.Looked(); uint64(n) > ticks || uint64(n) > b.slots || n > len(was) {
		t.Fatalf("of %v, %d slots, %d ticks: looked into %d", was, b.slots, ticks, n)
	}
}

// Each two ticks at which timers may be, each base in the wheel, and each way
// from there on, over more than two rounds.
func TestDueEachTwo(t *testing.T) {
	const far = 20
	for _, start := range []uint64{0, 1 << 40, api.Never - far - 1} {
		for base := range uint64(9) {
			for one := range uint64(far) {
				for other := one; other < far; other++ {
					l := []api.Timer{tm(start+one, 1, 0), tm(start+other, 0, 1)}
					for now := range uint64(far) {
						b, q := newBook(1, start+base, l...), made(t, 2, 1, start+base, l...)
						b.doDue(t, q, start+now)
						b.check(t, q)
						b.doDue(t, q, start+now+1)
						b.check(t, q)
					}
				}
			}
		}
	}
}

// A timer is due at its At, and not a tick sooner, however many rounds ahead it
// is: of each size, tick by tick, and in steps of about a round.
func TestDueAtItsTick(t *testing.T) {
	for bits := 1; bits <= 6; bits++ {
		slots := uint64(4) << bits
		for _, base := range []uint64{0, 1, slots - 1, slots, 1<<63 - 3, api.Never - 5*slots} {
			for _, ahead := range []uint64{1, 2, slots - 1, slots, slots + 1, 2*slots - 1, 2 * slots, 4*slots + 3, 5 * slots} {
				for _, step := range []uint64{1, 3, slots - 1, slots, slots + 1, 3 * slots} {
					x := tm(base+ahead, 9, 0)
					b, q := newBook(bits, base, x), made(t, 1, bits, base, x)
					for ; b.base+step < x.At && b.base+step > b.base; b.check(t, q) {
						b.doDue(t, q, b.base+step)
					}
					b.doDue(t, q, x.At-1)
					b.check(t, q)
					if q.Len() != 1 {
						t.Fatalf("%d slots: %v came at %d", slots, x, x.At-1)
					}
					b.doDue(t, q, x.At)
					b.check(t, q)
					if q.Len() != 0 {
						t.Fatalf("%d slots: %v did not come", slots, x)
					}
				}
			}
		}
	}
}

// Slots are looked into, each once, that are behind the base, up to now, and
// round the wheel: all of them, but no others.
func TestLooked(t *testing.T) {
	for bits := 1; bits <= 6; bits++ {
		slots := 4 << bits
		for _, base := range []uint64{0, 1, uint64(slots) - 1, 1<<63 + 5, api.Never - uint64(5*slots)} {
			// In each slot lie two, one of them two rounds ahead.
			var l []api.Timer
			for i := range slots {
				l = append(l, tm(base+1+uint64(i), 3, 2*i), tm(base+1+uint64(i+2*slots), 2, 2*i+1))
			}
			for _, n := range []int{0, 1, 2, slots / 2, slots - 1, slots, slots + 1, 2 * slots, 4*slots + 1} {
				q := made(t, 2*slots, bits, base, l...)
				now := base + uint64(n)
				due := q.Due(now)
				if want := min(n, slots); q.Looked() != want {
					t.Errorf("%d slots, base %d, Due(%d): looked into %d; want %d", slots, base, now, q.Looked(), want)
				}
				if want := min(n, slots) + max(min(n-2*slots, slots), 0); len(due) != want {
					t.Errorf("%d slots, base %d, Due(%d): %d are due; want %d", slots, base, now, len(due), want)
				}
				if q.Due(now); q.Looked() != 0 {
					t.Errorf("%d slots, base %d, Due(%d) again: looked into %d", slots, base, now, q.Looked())
				}
			}
		}
	}
}

// As many slots as ticks may go by that hold nothing, or nothing that pends any
// more: none of them is looked into.
func TestLookedIntoNothingEmpty(t *testing.T) {
	for bits := 1; bits <= 6; bits++ {
		slots := uint64(4) << bits
		b, q := newBook(bits, 0), made(t, 4, bits, 0)
		b.doDue(t, q, 3*slots)
		for place := range 4 {
			if e := q.Insert(tm(3*slots+1+uint64(place), 0, place)); e != api.OK {
				t.Fatal(e)
			}
		}
		if x, e := q.Cancel(1); x.Place != 1 || e != api.OK {
			t.Errorf("Cancel: %v, %v", x, e)
		}
		if e := q.Move(tm(3*slots+4, 0, 2)); e != api.OK {
			t.Errorf("Move: %v", e)
		}
		// One that is moved to the past is ready: it lies in no slot.
		if e := q.Move(tm(3*slots, 0, 0)); e != api.OK {
			t.Errorf("Move: %v", e)
		}
		if l := q.Due(4 * slots); len(l) != 3 || q.Looked() != 1 {
			t.Errorf("%d slots: %v, looked into %d", slots, l, q.Looked())
		}
	}
}

// One that is put in with an At no more than the base is ready: it lies in no
// slot, and is due as soon as it is asked for its tick, ahead of the base, too.
func TestReady(t *testing.T) {
	for _, base := range []uint64{4, 9, 1 << 63, api.Never} {
		for bits := 1; bits <= 6; bits++ {
			x, y := tm(base-3, 0, 0), tm(base, 5, 1)
			q := made(t, 3, bits, base, y, x)
			for _, z := range []struct {
				now uint64
				due []api.Timer
			}{
				{base - 4, nil},
				{base - 3, []api.Timer{x}},
				{base - 1, nil},
				{base, []api.Timer{y}},
			} {
				if l := q.Due(z.now); !slices.Equal(l, z.due) || q.Looked() != 0 || q.Base() != base {
					t.Errorf("base %d, Due(%d): %v, looked into %d, base %d; want %v", base, z.now, l, q.Looked(), q.Base(), z.due)
				}
			}
			// Of what is ready nothing is lost when the base goes on.
			if e := q.Insert(x); e != api.OK {
				t.Error(e)
			}
			if l := q.Due(api.Never); !slices.Equal(l, []api.Timer{x}) || q.Looked() != 0 || q.Base() != api.Never {
				t.Errorf("base %d: %v, looked into %d, base %d", base, l, q.Looked(), q.Base())
			}
		}
	}
}

// At never no slot is beyond the end: what is there is due, and what is put in
// behind it is ready.
func TestAtNever(t *testing.T) {
	for bits := 1; bits <= 6; bits++ {
		for _, base := range []uint64{0, api.Never - 300, api.Never - 1} {
			l := []api.Timer{tm(api.Never, 7, 0), tm(api.Never-1, 7, 1)}
			b, q := newBook(bits, base, l...), made(t, 3, bits, base, l...)
			b.check(t, q)
			for _, now := range []uint64{api.Never - 2, api.Never - 1, api.Never, api.Never, 0} {
				b.doDue(t, q, now)
				b.check(t, q)
			}
			if e := q.Insert(tm(api.Never, 1, 2)); e != api.OK {
				t.Error(e)
			}
			b.pend = append(b.pend, tm(api.Never, 1, 2))
			b.check(t, q)
			for _, now := range []uint64{api.Never - 1, api.Never} {
				b.doDue(t, q, now)
				b.check(t, q)
			}
		}
	}
}

// No other call changes the base, or what the last Due looked into, and neither
// does what is refused.
func TestOtherCallsLeaveBaseAndLooked(t *testing.T) {
	l := []api.Timer{tm(8, 0, 0), tm(9, 0, 1), tm(30, 0, 2)}
	b, q := newBook(2, 5, l...), made(t, 5, 2, 5, l...)
	b.doDue(t, q, 16)
	if b.looked != 3 {
		t.Fatalf("looked into %d", b.looked)
	}
	same := func(name string, e, want api.Errno) {
		t.Helper()
		if e != want || q.Looked() != 3 || q.Base() != 16 {
			t.Errorf("%s: %v, looked into %d, base %d", name, e, q.Looked(), q.Base())
		}
	}
	same("Insert", q.Insert(tm(3, 0, 0)), api.OK)
	same("Insert", q.Insert(tm(40, 0, 1)), api.OK)
	same("Insert", q.Insert(tm(50, 0, 1)), api.ErrTwice)
	same("Insert", q.Insert(tm(50, 0, 5)), api.ErrArg)
	same("Move", q.Move(tm(50, 0, 1)), api.OK)
	same("Move", q.Move(tm(50, 0, 3)), api.ErrNone)
	same("Move", q.Move(tm(50, 0, -1)), api.ErrArg)
	for place, want := range []api.Errno{api.OK, api.OK, api.OK, api.ErrNone, api.ErrNone, api.ErrArg} {
		q.Get(place)
		q.Min()
		q.All()
		q.Len()
		_, e := q.Cancel(place)
		same("Cancel", e, want)
	}
}

// Long ways over each size, at ticks near the base and rounds ahead: the base
// goes on, and what is told is what a plain list tells.
func TestLongWays(t *testing.T) {
	const places = 40
	for bits := 1; bits <= 6; bits++ {
		slots := 4 << bits
		for seed := range uint64(12) {
			roll := queuetest.Dice(seed)
			base := []uint64{3, 1<<63 - 200, api.Never - uint64(40*slots)}[roll(3)]
			b, q := newBook(bits, base), made(t, places, bits, base)
			for range 600 {
				far := []int{4, slots, 3 * slots}[roll(3)]
				x := tm(b.base+uint64(roll(far))-uint64(roll(4)), uint64(roll(3)), roll(places))
				k := slices.IndexFunc(b.pend, func(y api.Timer) bool { return y.Place == x.Place })
				switch roll(8) {
				case 0, 1, 2, 3:
					if e := q.Insert(x); (e == api.OK) != (k < 0) {
						t.Fatalf("Insert(%v): %v", x, e)
					}
					if k < 0 {
						b.pend = append(b.pend, x)
					}
				case 4, 5:
					if e := q.Move(x); (e == api.OK) != (k >= 0) {
						t.Fatalf("Move(%v): %v", x, e)
					}
					if k >= 0 {
						b.pend[k] = x
					}
				case 6:
					if _, e := q.Cancel(x.Place); (e == api.OK) != (k >= 0) {
						t.Fatalf("Cancel(%d): %v", x.Place, e)
					}
					if k >= 0 {
						b.pend = slices.Delete(b.pend, k, k+1)
					}
				case 7:
					b.doDue(t, q, b.base+uint64(roll(far/2+1))-uint64(roll(2)))
				}
				b.check(t, q)
			}
		}
	}
}

// How many slots there are, and where the base began, makes no difference to
// what is due.
func TestSizeAndBaseMakeNoDifference(t *testing.T) {
	const places = 30
	ats := []uint64{0, 1, 7, 8, 9, 63, 64, 255, 256, 257, 1000, 1 << 20, 1<<63 + 4, api.Never - 1, api.Never}
	var queues []*hashwheel.Queue
	for bits := 1; bits <= 6; bits++ {
		for _, base := range []uint64{0, 1, 8, 200, 1 << 20, api.Never} {
			queues = append(queues, made(t, places, bits, base))
		}
	}
	roll := queuetest.Dice(5)
	for range 3000 {
		what, x := roll(6), tm(ats[roll(len(ats))]+uint64(roll(2)), uint64(roll(3)), roll(places))
		if what == 5 && roll(3) > 0 {
			x.At = uint64(roll(300))
		}
		var first []api.Timer
		for i, q := range queues {
			var l []api.Timer
			switch what {
			case 0, 1, 2:
				q.Insert(x)
			case 3:
				q.Move(x)
			case 4:
				q.Cancel(x.Place)
			case 5:
				l = q.Due(x.At)
			}
			l = append(l, q.All()...)
			if i == 0 {
				first = l
			}
			if !slices.Equal(l, first) {
				t.Fatalf("call %d of %v, queue %d: %v; want %v", what, x, i, l, first)
			}
		}
	}
}
