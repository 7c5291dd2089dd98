package queuetest

import (
	"math"
	"slices"
	"strconv"
	"strings"

	"compline/api"
)

func tm(at, seq uint64, place int) api.Timer { return api.Timer{At: at, Seq: seq, Place: place} }

// before tells the order of chapter 1, in plain words: a check that asked the
// packages it checks would not see what is wrong in them.
func before(a, b api.Timer) bool {
	if a.At != b.At {
		return a.At < b.At
	}
	if a.Seq != b.Seq {
		return a.Seq < b.Seq
	}
	return a.Place < b.Place
}

// Book is a queue whose timers are a plain list in no order, and which does what
// the chapters say of it in plain words: what any other queue tells is held against
// what a book tells. As an engine does, it has Take.
type Book struct {
	places int
	pend   []api.Timer
}

// NewBook is a book of so many places in which none pends.
func NewBook(places int) *Book { return &Book{places: places} }

// Insert lets one pend.
func (b *Book) Insert(t api.Timer) api.Errno {
	if !b.isPlace(t.Place) {
		return api.ErrArg
	}
	if b.index(t.Place) >= 0 {
		return api.ErrTwice
	}
	b.pend = append(b.pend, t)
	return api.OK
}

// Cancel takes one out.
func (b *Book) Cancel(place int) (api.Timer, api.Errno) {
	if !b.isPlace(place) {
		return api.Timer{}, api.ErrArg
	}
	i := b.index(place)
	if i < 0 {
		return api.Timer{}, api.ErrNone
	}
	was := b.pend[i]
	b.pend = slices.Delete(b.pend, i, i+1)
	return was, api.OK
}

// Move sets one in another one's stead.
func (b *Book) Move(t api.Timer) api.Errno {
	if !b.isPlace(t.Place) {
		return api.ErrArg
	}
	i := b.index(t.Place)
	if i < 0 {
		return api.ErrNone
	}
	b.pend[i] = t
	return api.OK
}

// Get is the one at a place.
func (b *Book) Get(place int) (api.Timer, bool) {
	i := b.index(place)
	if i < 0 {
		return api.Timer{}, false
	}
	return b.pend[i], true
}

// Min is the first one.
func (b *Book) Min() (api.Timer, bool) {
	if len(b.pend) == 0 {
		return api.Timer{}, false
	}
	return b.All()[0], true
}

// Due takes out those that are due.
func (b *Book) Due(now uint64) []api.Timer {
	return b.split(func(_ int, x api.Timer) bool { return x.At <= now })
}

// Take takes out the first ones.
func (b *Book) Take(n int) []api.Timer {
	return b.split(func(i int, _ api.Timer) bool { return i < n })
}

// Len is how many pend.
func (b *Book) Len() int { return len(b.pend) }

// All are those that pend.
func (b *Book) All() []api.Timer { return InOrder(b.pend) }

// split takes out those that are meant, by how many there are before each, and by
// what it is.
func (b *Book) split(meant func(before int, t api.Timer) bool) []api.Timer {
	var out, rest []api.Timer
	for i, x := range b.All() {
		if meant(i, x) {
			out = append(out, x)
		} else {
			rest = append(rest, x)
		}
	}
	b.pend = rest
	return out
}

func (b *Book) copied() *Book { return &Book{b.places, append([]api.Timer(nil), b.pend...)} }

// InOrder is the list as chapter 1 orders it: each time the one that none is
// before.
func InOrder(list []api.Timer) []api.Timer {
	var l []api.Timer
	rest := append([]api.Timer(nil), list...)
	for len(rest) > 0 {
		first := 0
		for i := range rest {
			if before(rest[i], rest[first]) {
				first = i
			}
		}
		l = append(l, rest[first])
		rest = slices.Delete(rest, first, first+1)
	}
	return l
}

// text tells two books apart.
func (b *Book) text() string {
	var w strings.Builder
	for _, x := range b.All() {
		w.WriteString(strconv.FormatUint(x.At, 10) + "," + strconv.FormatUint(x.Seq, 10) + "," + strconv.Itoa(x.Place) + " ")
	}
	return w.String()
}

// index is where in the book the one at a place stands, -1 if none pends there.
func (b *Book) index(place int) int {
	return slices.IndexFunc(b.pend, func(x api.Timer) bool { return x.Place == place })
}

func (b *Book) isPlace(i int) bool { return 0 <= i && i < b.places }

// The calls that change something.
const (
	toInsert = iota
	toCancel
	toMove
	toDue
)

// call is one of them: the timer is what is put, its Place the place and its At
// the tick that is asked for.
type call struct {
	what int
	t    api.Timer
}

// answer is what a call tells: the timer, or the timers, and the error.
type answer struct {
	l []api.Timer
	e api.Errno
}

func (a answer) same(b answer) bool { return a.e == b.e && slices.Equal(a.l, b.l) }

// asked is what a queue answers to a call.
func asked(q Queue, x call) answer {
	switch x.what {
	case toInsert:
		return answer{e: q.Insert(x.t)}
	case toCancel:
		got, e := q.Cancel(x.t.Place)
		return answer{[]api.Timer{got}, e}
	case toMove:
		return answer{e: q.Move(x.t)}
	}
	return answer{l: q.Due(x.t.At)}
}

// do does it with both, and holds the answers against each other.
func (b *Book) do(t T, q Queue, x call) answer {
	t.Helper()
	was := b.copied()
	want := asked(b, x)
	if got := asked(q, x); !got.same(want) {
		t.Fatalf("of %s, %v: %v; want %v", was.text(), x, got, want)
	}
	return want
}

// Check holds all that q tells against the book, of all places, and of some that
// there are not.
func (b *Book) Check(t T, q Queue) {
	t.Helper()
	all := b.All()
	if got := q.All(); !slices.Equal(got, all) {
		t.Fatalf("All: %v; want %v", got, all)
	}
	if n := q.Len(); n != len(all) {
		t.Fatalf("of %s, Len: %d", b.text(), n)
	}
	first, some := b.Min()
	if got, ok := q.Min(); got != first || ok != some {
		t.Fatalf("of %s, Min: %v, %v", b.text(), got, ok)
	}
	for _, place := range farAndNear(b.places) {
		want, pends := b.Get(place)
		if got, ok := q.Get(place); got != want || ok != pends {
			t.Fatalf("of %s, Get(%d): %v, %v; want %v", b.text(), place, got, ok, want)
		}
	}
}

// drain takes out the first one, again and again, till none is left.
func (b *Book) drain(t T, q Queue) {
	t.Helper()
	for _, want := range b.All() {
		if got, ok := q.Min(); got != want || !ok {
			t.Fatalf("of %s, Min: %v, %v", b.text(), got, ok)
		}
		b.do(t, q, call{toCancel, want})
	}
	b.Check(t, q)
}

// calls are all calls of few numbers, with all places from one below what there
// is to two beyond it.
func (b *Book) calls(ats, seqs []uint64) []call {
	var l []call
	for place := -1; place < b.places+2; place++ {
		l = append(l, call{toCancel, tm(0, 0, place)})
		for _, at := range ats {
			for _, seq := range seqs {
				l = append(l, call{toInsert, tm(at, seq, place)}, call{toMove, tm(at, seq, place)})
			}
		}
	}
	for _, at := range ats {
		l = append(l, call{toDue, tm(at-1, 0, 0)}, call{toDue, tm(at, 0, 0)})
	}
	return l
}

// put are the calls that let timers pend.
func put(l ...api.Timer) []call {
	var way []call
	for _, x := range l {
		way = append(way, call{toInsert, x})
	}
	return way
}

// farAndNear are the numbers from -2 to one beyond n, and the farthest ones.
func farAndNear(n int) []int {
	l := []int{math.MinInt, math.MinInt + 1, -1 << 32}
	for i := -2; i <= n+1; i++ {
		l = append(l, i)
	}
	return append(l, n+api.MaxPlaces, 1<<32, 1<<32+1, math.MaxInt-1, math.MaxInt)
}
