package listq_test

import (
	"math"
	"slices"
	"strconv"
	"strings"
	"testing"

	"compline/api"
	"compline/listq"
)

// made is a queue that is asked for with a right argument.
func made(t *testing.T, places int) *listq.Queue {
	t.Helper()
	q, e := listq.New(places)
	if e != api.OK || q == nil {
		t.Fatalf("New(%d): %v, %v", places, q, e)
	}
	return q
}

func tm(at, seq uint64, place int) api.Timer { return api.Timer{At: at, Seq: seq, Place: place} }

// before tells the order of chapter 1, in plain words.
func before(a, b api.Timer) bool {
	if a.At != b.At {
		return a.At < b.At
	}
	if a.Seq != b.Seq {
		return a.Seq < b.Seq
	}
	return a.Place < b.Place
}

// book are the timers that pend, as a plain list in no order.
type book struct {
	places int
	pend   []api.Timer
}

func (b *book) copied() *book { return &book{b.places, append([]api.Timer(nil), b.pend...)} }

// inOrder are those that pend: each time the one that none is before.
func (b *book) inOrder() []api.Timer {
	var l []api.Timer
	rest := append([]api.Timer(nil), b.pend...)
	for len(rest) > 0 {
		first := 0
		for i := range rest {
			if before(rest[i], rest[first]) {
				first = i
			}
		}
		l = append(l, rest[first])
		rest = slices.Delete(rest, first, first+1)
	}
	return l
}

// text tells two books apart.
func (b *book) text() string {
	var w strings.Builder
	for _, x := range b.inOrder() {
		w.WriteString(strconv.FormatUint(x.At, 10) + "," + strconv.FormatUint(x.Seq, 10) + "," + strconv.Itoa(x.Place) + " ")
	}
	return w.String()
}

// index is where in the book the one at a place stands, -1 if none pends there.
func (b *book) index(place int) int {
	return slices.IndexFunc(b.pend, func(x api.Timer) bool { return x.Place == place })
}

func (b *book) isPlace(i int) bool { return 0 <= i && i < b.places }

// The calls that change something.
const (
	toInsert = iota
	toCancel
	toMove
	toDue
)

// call is one of them: the timer is what is put, its Place the place and its At
// the tick that is asked for.
type call struct {
	what int
	t    api.Timer
}

// answer is what a call tells: the timer, or the timers, and the error.
type answer struct {
	l []api.Timer
	e api.Errno
}

func (a answer) same(b answer) bool { return a.e == b.e && slices.Equal(a.l, b.l) }

// told is what the chapter's sentences say of a call, in their order, and what
// comes of it in the book.
func (b *book) told(x call) answer {
	i := b.index(x.t.Place)
	switch x.what {
	case toInsert:
		if !b.isPlace(x.t.Place) {
			return answer{e: api.ErrArg}
		}
		if i >= 0 {
			return answer{e: api.ErrTwice}
		}
		b.pend = append(b.pend, x.t)
		return answer{}
	case toDue:
		return b.due(x.t.At)
	}
	none := answer{}
	if x.what == toCancel {
		none.l = []api.Timer{{}}
	}
	if !b.isPlace(x.t.Place) {
		none.e = api.ErrArg
		return none
	}
	if i < 0 {
		none.e = api.ErrNone
		return none
	}
	was := b.pend[i]
	if x.what == toMove {
		b.pend[i] = x.t
		return answer{}
	}
	b.pend = slices.Delete(b.pend, i, i+1)
	return answer{l: []api.Timer{was}}
}

func (b *book) due(now uint64) answer {
	all := b.inOrder()
	b.pend = nil
	var due []api.Timer
	for _, x := range all {
		if x.At <= now {
			due = append(due, x)
		} else {
			b.pend = append(b.pend, x)
		}
	}
	return answer{l: due}
}

// asked is what a queue answers to a call.
func asked(q *listq.Queue, x call) answer {
	switch x.what {
	case toInsert:
		return answer{e: q.Insert(x.t)}
	case toCancel:
		got, e := q.Cancel(x.t.Place)
		return answer{[]api.Timer{got}, e}
	case toMove:
		return answer{e: q.Move(x.t)}
	}
	return answer{l: q.Due(x.t.At)}
}

// do does it with both, and holds the answers against each other.
func (b *book) do(t *testing.T, q *listq.Queue, x call) answer {
	t.Helper()
	was := b.copied()
	want := b.told(x)
	if got := asked(q, x); !got.same(want) {
		t.Fatalf("of %s, %v: %v; want %v", was.text(), x, got, want)
	}
	return want
}

// check holds all that q tells against the book, of all places, and of some
// that there are not.
func (b *book) check(t *testing.T, q *listq.Queue) {
	t.Helper()
	all := b.inOrder()
	if got := q.All(); !slices.Equal(got, all) {
		t.Fatalf("All: %v; want %v", got, all)
	}
	if n := q.Len(); n != len(all) {
		t.Fatalf("of %s, Len: %d", b.text(), n)
	}
	var first api.Timer
	if len(all) > 0 {
		first = all[0]
	}
	if got, ok := q.Min(); got != first || ok != (len(all) > 0) {
		t.Fatalf("of %s, Min: %v, %v", b.text(), got, ok)
	}
	for _, place := range farAndNear(b.places) {
		var want api.Timer
		i := b.index(place)
		if i >= 0 {
			want = b.pend[i]
		}
		if got, ok := q.Get(place); got != want || ok != (i >= 0) {
			t.Fatalf("of %s, Get(%d): %v, %v; want %v", b.text(), place, got, ok, want)
		}
	}
}

// farAndNear are the numbers from -2 to one beyond n, and the farthest ones.
func farAndNear(n int) []int {
	l := []int{math.MinInt, math.MinInt + 1, -1 << 32}
	for i := -2; i <= n+1; i++ {
		l = append(l, i)
	}
	return append(l, n+api.MaxPlaces, 1<<32, 1<<32+1, math.MaxInt-1, math.MaxInt)
}

// calls are all calls of few numbers, with all places from one below what there
// is to two beyond it.
func (b *book) calls(ats, seqs []uint64) []call {
	var l []call
	for place := -1; place < b.places+2; place++ {
		l = append(l, call{toCancel, tm(0, 0, place)})
		for _, at := range ats {
			for _, seq := range seqs {
				l = append(l, call{toInsert, tm(at, seq, place)}, call{toMove, tm(at, seq, place)})
			}
		}
	}
	for _, at := range ats {
		l = append(l, call{toDue, tm(at-1, 0, 0)}, call{toDue, tm(at, 0, 0)})
	}
	return l
}

// replayed is a queue, and a book, with which all of way was done.
func replayed(t *testing.T, places int, way []call) (*book, *listq.Queue) {
	t.Helper()
	b, q := &book{places: places}, made(t, places)
	for _, x := range way {
		b.do(t, q, x)
	}
	return b, q
}

// put are the calls that let timers pend.
func put(l ...api.Timer) []call {
	var way []call
	for _, x := range l {
		way = append(way, call{toInsert, x})
	}
	return way
}

// dice are numbers in no order, the same ones each time.
func dice(seed uint64) func(n int) int {
	return func(n int) int {
		seed = seed*6364136223846793005 + 1442695040888963407
		return int(seed>>33) % n
	}
}

func TestExamples(t *testing.T) {
	q := made(t, 3)
	for _, x := range put(tm(5, 2, 0), tm(3, 1, 1), tm(5, 1, 2)) {
		if e := q.Insert(x.t); e != api.OK {
			t.Fatal(x, e)
		}
	}
	if l := q.All(); !slices.Equal(l, []api.Timer{tm(3, 1, 1), tm(5, 1, 2), tm(5, 2, 0)}) {
		t.Error(l)
	}
	if l := q.Due(4); !slices.Equal(l, []api.Timer{tm(3, 1, 1)}) {
		t.Error(l)
	}
	if x, ok := q.Min(); x != tm(5, 1, 2) || !ok {
		t.Error(x, ok)
	}
	if e := q.Move(tm(9, 1, 2)); e != api.OK {
		t.Error(e)
	}
	if l := q.All(); !slices.Equal(l, []api.Timer{tm(5, 2, 0), tm(9, 1, 2)}) {
		t.Error(l)
	}
}

func TestNew(t *testing.T) {
	for _, places := range []int{math.MinInt, -1 << 32, -1024, -1, 0, 1, 2, 1023, 1024, 1025, 2048, 1 << 32, 1<<32 + 1, math.MaxInt} {
		want := api.OK
		if places < 0 || places > 1024 {
			want = api.ErrArg
		}
		q, e := listq.New(places)
		if e != want || (q == nil) != (want != api.OK) {
			t.Errorf("New(%d): %v, %v; want %v", places, q, e, want)
		}
		if q != nil {
			(&book{places: places}).check(t, q)
		}
	}
}

// All that may pend in small queues, and each call there, right or wrong: of
// what is refused nothing comes.
func TestAllStates(t *testing.T) {
	for _, x := range []struct {
		places    int
		ats, seqs []uint64
	}{
		{0, []uint64{0, 1}, []uint64{0, 1}},
		{1, []uint64{0, 1, api.Never}, []uint64{0, 1, api.Never}},
		{2, []uint64{0, 1, api.Never}, []uint64{0, 7}},
		{3, []uint64{1, 1 << 63}, []uint64{3, 4}},
		{4, []uint64{5, 6}, []uint64{0}},
	} {
		seen := map[string]bool{}
		ways := [][]call{nil}
		for len(ways) > 0 {
			way := ways[0]
			ways = ways[1:]
			b, _ := replayed(t, x.places, way)
			if seen[b.text()] {
				continue
			}
			seen[b.text()] = true
			for _, y := range b.calls(x.ats, x.seqs) {
				b, q := replayed(t, x.places, way)
				got := b.do(t, q, y)
				b.check(t, q)
				if got.e == api.OK {
					ways = append(ways, append(slices.Clone(way), y))
				}
			}
		}
		t.Logf("%d places: %d states", x.places, len(seen))
	}
}

// All ways that a few calls may go: what is told does not hang on the way on
// which it came to pend so.
func TestAllWays(t *testing.T) {
	n := 0
	var further func(places, calls int, ats, seqs []uint64, way []call)
	further = func(places, calls int, ats, seqs []uint64, way []call) {
		n++
		b, q := replayed(t, places, way)
		b.check(t, q)
		if calls == 0 {
			return
		}
		for _, x := range b.calls(ats, seqs) {
			if b.copied().told(x).e == api.OK {
				further(places, calls-1, ats, seqs, append(slices.Clone(way), x))
			}
		}
	}
	further(2, 4, []uint64{0, 9}, []uint64{1, 2}, nil)
	further(3, 4, []uint64{4, api.Never}, []uint64{0}, nil)
	further(4, 4, []uint64{4}, []uint64{8}, nil)
	t.Logf("%d ways", n)
}

// Long ways, in no order, of more places, at few ticks and at far ones.
func TestLongWays(t *testing.T) {
	far := []uint64{0, 1, 2, 1<<32 - 1, 1 << 32, 1<<63 - 1, 1 << 63, 1<<63 + 1, api.Never - 1, api.Never}
	for _, places := range []int{1, 5, 17, 60} {
		for seed := range uint64(8) {
			b, q := &book{places: places}, made(t, places)
			roll := dice(seed)
			number := func() uint64 {
				if seed%2 == 0 {
					return far[roll(len(far))]
				}
				return uint64(roll(40))
			}
			for range 400 {
				what := []int{toInsert, toInsert, toInsert, toInsert, toInsert, toInsert, toMove, toMove, toMove, toCancel, toCancel, toDue}[roll(12)]
				x := call{what, tm(number(), number(), roll(places))}
				// What is due at a far tick would leave nothing: mostly it is near.
				if what == toDue && roll(4) > 0 {
					x.t.At = uint64(roll(6))
				}
				b.do(t, q, x)
				b.check(t, q)
			}
		}
	}
}

// What is wrong is told in the order of the call's sentences, and changes
// nothing.
func TestFirstError(t *testing.T) {
	b, q := replayed(t, 4, put(tm(3, 3, 1), tm(2, 9, 2)))
	refused := func(x call, want api.Errno) {
		t.Helper()
		if e := asked(q, x).e; e != want {
			t.Errorf("%v: %v; want %v", x, e, want)
		}
		b.check(t, q)
	}
	for _, place := range []int{math.MinInt, -1 << 32, -1, 4, 5, 6, 1024, 1 << 32, 1<<32 + 1, 1<<32 + 2, math.MaxInt} {
		for _, what := range []int{toInsert, toCancel, toMove} {
			refused(call{what, tm(0, 0, place)}, api.ErrArg)
			refused(call{what, tm(api.Never, api.Never, place)}, api.ErrArg)
		}
	}
	for _, place := range []int{1, 2} {
		refused(call{toInsert, tm(0, 0, place)}, api.ErrTwice)
		refused(call{toInsert, b.pend[place-1]}, api.ErrTwice)
		refused(call{toInsert, tm(api.Never, 0, place)}, api.ErrTwice)
	}
	for _, place := range []int{0, 3} {
		refused(call{toCancel, tm(0, 0, place)}, api.ErrNone)
		refused(call{toMove, tm(0, 0, place)}, api.ErrNone)
		refused(call{toMove, tm(api.Never, 0, place)}, api.ErrNone)
	}
}

// A queue without places refuses each one, and has nothing to tell.
func TestNoPlaces(t *testing.T) {
	b, q := &book{}, made(t, 0)
	for _, place := range farAndNear(0) {
		for _, what := range []int{toInsert, toCancel, toMove} {
			if got := b.do(t, q, call{what, tm(1, 1, place)}); got.e != api.ErrArg {
				t.Error(place, got)
			}
		}
	}
	b.do(t, q, call{toDue, tm(api.Never, 0, 0)})
	b.check(t, q)
}

// What is due comes in order; behind it none is due, and what is not due pends
// on: at each tick beside one at which a timer is.
func TestDue(t *testing.T) {
	ats := []uint64{0, 1, 5, 1 << 63, api.Never - 1, api.Never}
	for _, at := range ats {
		for _, now := range []uint64{at - 1, at, at + 1} {
			var way []call
			for i, x := range ats {
				way = append(way, put(tm(x, 2, i), tm(x, 1, i+len(ats)), tm(x, 2, i+2*len(ats)))...)
			}
			b, q := replayed(t, 3*len(ats), way)
			due := b.do(t, q, call{toDue, tm(now, 0, 0)}).l
			b.check(t, q)
			for i := range due {
				if due[i].At > now || i > 0 && !before(due[i-1], due[i]) {
					t.Errorf("Due(%d): %v", now, due)
				}
			}
			if x, some := q.Min(); some && x.At <= now {
				t.Errorf("behind Due(%d): %v", now, x)
			}
			if again := q.Due(now); len(again) != 0 {
				t.Errorf("Due(%d) again: %v", now, again)
			}
			if len(due)+q.Len() != 3*len(ats) {
				t.Errorf("Due(%d): %d, and %d pend", now, len(due), q.Len())
			}
		}
	}
}

// What was due pends no longer: its place is as if none had ever pended there.
func TestDueLeavesPlaces(t *testing.T) {
	b, q := replayed(t, 3, put(tm(4, 1, 0), tm(2, 2, 1), tm(9, 3, 2)))
	for _, x := range []call{
		{toDue, tm(4, 0, 0)},
		{toCancel, tm(0, 0, 0)},
		{toMove, tm(1, 1, 1)},
		{toInsert, tm(1, 9, 0)},
		{toInsert, tm(9, 2, 1)},
		{toDue, tm(9, 0, 0)},
		{toInsert, tm(0, 0, 2)},
	} {
		b.do(t, q, x)
		b.check(t, q)
	}
}

// A timer that is moved is as if it were cancelled and inserted, wherever it
// goes: before all, between each two, behind all, or where it was.
func TestMovedIsCancelledAndInserted(t *testing.T) {
	way := put(tm(2, 5, 0), tm(4, 5, 1), tm(4, 6, 2), tm(4, 5, 3), tm(8, 0, 4))
	for place := range 5 {
		for at := range uint64(10) {
			for seq := range uint64(8) {
				b, one := replayed(t, 6, way)
				c, other := replayed(t, 6, way)
				x := tm(at, seq, place)
				b.do(t, one, call{toMove, x})
				c.do(t, other, call{toCancel, x})
				c.do(t, other, call{toInsert, x})
				if !slices.Equal(one.All(), other.All()) {
					t.Errorf("%v: %v; %v", x, one.All(), other.All())
				}
				b.check(t, one)
				b.check(t, other)
			}
		}
	}
}

// Timers of one tick, and of one Seq, are in order whichever came first.
func TestEachOrder(t *testing.T) {
	l := []api.Timer{tm(1, 9, 4), tm(2, 1, 0), tm(2, 1, 3), tm(2, 2, 1), tm(3, 0, 2)}
	var each func(rest, l []api.Timer)
	each = func(rest, done []api.Timer) {
		if len(rest) == 0 {
			b, q := replayed(t, 5, put(done...))
			b.check(t, q)
			if !slices.Equal(q.All(), l) {
				t.Errorf("of %v: %v", done, q.All())
			}
		}
		for i := range rest {
			each(slices.Delete(slices.Clone(rest), i, i+1), append(slices.Clone(done), rest[i]))
		}
	}
	each(l, nil)
}

// The most places that there may be, filled from either end, and in no order.
func TestMost(t *testing.T) {
	const most = api.MaxPlaces
	for _, at := range []func(i int) uint64{
		func(i int) uint64 { return uint64(i) },
		func(i int) uint64 { return uint64(most - i) },
		func(i int) uint64 { return uint64(i * 389 % most) },
		func(i int) uint64 { return 7 },
	} {
		b, q := &book{places: most}, made(t, most)
		for i := range most {
			b.do(t, q, call{toInsert, tm(at(i), uint64(i%3), i)})
		}
		b.check(t, q)
		for i := 0; i < most; i += 2 {
			b.do(t, q, call{toMove, tm(at(i)/2, uint64(i%5), i)})
		}
		for i := 0; i < most; i += 3 {
			b.do(t, q, call{toCancel, tm(0, 0, i)})
		}
		b.check(t, q)
		b.do(t, q, call{toDue, tm(most/2, 0, 0)})
		b.check(t, q)
		b.do(t, q, call{toDue, tm(most, 0, 0)})
		b.check(t, q)
		if q.Len() != 0 {
			t.Error(q.Len())
		}
	}
}

// spoiled has its elements, and what is behind them in its memory, spoiled.
func spoiled(l []api.Timer) {
	l = l[:cap(l)]
	for i := range l {
		l[i] = tm(77, 77, 77)
	}
}

// What is told in lists is new memory: it goes on neither with the queue, nor
// with what that tells another time.
func TestNothingShared(t *testing.T) {
	b, q := replayed(t, 6, put(tm(5, 1, 3), tm(2, 2, 0), tm(7, 3, 5), tm(2, 4, 4)))
	all := b.inOrder()
	one, other := q.All(), q.All()
	spoiled(one)
	if !slices.Equal(other, all) {
		t.Error(other)
	}
	b.check(t, q)
	due := q.Due(2)
	want := b.told(call{toDue, tm(2, 0, 0)}).l
	for _, x := range []call{{toInsert, tm(1, 1, 0)}, {toMove, tm(9, 9, 3)}, {toCancel, tm(0, 0, 5)}, {toInsert, tm(3, 3, 4)}, {toDue, tm(3, 0, 0)}} {
		b.do(t, q, x)
		if !slices.Equal(due, want) || !slices.Equal(other, all) {
			t.Error(x, due, other)
		}
	}
	spoiled(due)
	spoiled(other)
	b.check(t, q)
	for _, empty := range [][]api.Timer{q.Due(0), q.Due(api.Never), q.All()} {
		for range 9 {
			empty = append(empty, tm(77, 77, 77))
		}
	}
	(&book{places: 6}).check(t, q)
}

// Two queues go their own ways.
func TestQueuesApart(t *testing.T) {
	way := put(tm(5, 1, 0), tm(4, 1, 2))
	a, one := replayed(t, 4, way)
	b, other := replayed(t, 4, way)
	for _, x := range []call{{toMove, tm(6, 0, 2)}, {toInsert, tm(1, 1, 1)}, {toCancel, tm(0, 0, 0)}, {toDue, tm(9, 0, 0)}} {
		a.do(t, one, x)
		a.check(t, one)
		b.check(t, other)
	}
}
