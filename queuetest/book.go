package queuetest

import (
	"math"
	"slices"
	"strconv"
	"strings"

	"compline/api"
)

func tm(at, seq uint64, place int) api.Timer { return api.Timer{At: at, Seq: seq, Place: place} }

// before tells the order of chapter 1, in plain words: a check that asked the
// packages it checks would not see what is wrong in them.
func before(a, b api.Timer) bool {
	if a.At != b.At {
		return a.At < b.At
	}
	if a.Seq != b.Seq {
		return a.Seq < b.Seq
	}
	return a.Place < b.Place
}

// book are the timers that pend, as a plain list in no order.
type book struct {
	places int
	pend   []api.Timer
}

func (b *book) copied() *book { return &book{b.places, append([]api.Timer(nil), b.pend...)} }

// inOrder are those that pend.
func (b *book) inOrder() []api.Timer { return InOrder(b.pend) }

// InOrder is the list as chapter 1 orders it: each time the one that none is
// before.
func InOrder(list []api.Timer) []api.Timer {
	var l []api.Timer
	rest := append([]api.Timer(nil), list...)
	for len(rest) > 0 {
		first := 0
		for i := range rest {
			if before(rest[i], rest[first]) {
				first = i
			}
		}
		l = append(l, rest[first])
		rest = slices.Delete(rest, first, first+1)
	}
	return l
}

// text tells two books apart.
func (b *book) text() string {
	var w strings.Builder
	for _, x := range b.inOrder() {
		w.WriteString(strconv.FormatUint(x.At, 10) + "," + strconv.FormatUint(x.Seq, 10) + "," + strconv.Itoa(x.Place) + " ")
	}
	return w.String()
}

// index is where in the book the one at a place stands, -1 if none pends there.
func (b *book) index(place int) int {
	return slices.IndexFunc(b.pend, func(x api.Timer) bool { return x.Place == place })
}

func (b *book) isPlace(i int) bool { return 0 <= i && i < b.places }

// The calls that change something.
const (
	toInsert = iota
	toCancel
	toMove
	toDue
)

// call is one of them: the timer is what is put, its Place the place and its At
// the tick that is asked for.
type call struct {
	what int
	t    api.Timer
}

// answer is what a call tells: the timer, or the timers, and the error.
type answer struct {
	l []api.Timer
	e api.Errno
}

func (a answer) same(b answer) bool { return a.e == b.e && slices.Equal(a.l, b.l) }

// told is what the chapter's sentences say of a call, in their order, and what
// comes of it in the book.
func (b *book) told(x call) answer {
	switch x.what {
	case toInsert:
		return b.insert(x.t)
	case toCancel:
		return b.cancel(x.t.Place)
	case toMove:
		return b.move(x.t)
	}
	return b.due(x.t.At)
}

func (b *book) insert(t api.Timer) answer {
	if !b.isPlace(t.Place) {
		return answer{e: api.ErrArg}
	}
	if b.index(t.Place) >= 0 {
		return answer{e: api.ErrTwice}
	}
	b.pend = append(b.pend, t)
	return answer{}
}

func (b *book) cancel(place int) answer {
	if !b.isPlace(place) {
		return answer{[]api.Timer{{}}, api.ErrArg}
	}
	i := b.index(place)
	if i < 0 {
		return answer{[]api.Timer{{}}, api.ErrNone}
	}
	was := b.pend[i]
	b.pend = slices.Delete(b.pend, i, i+1)
	return answer{l: []api.Timer{was}}
}

func (b *book) move(t api.Timer) answer {
	if !b.isPlace(t.Place) {
		return answer{e: api.ErrArg}
	}
	i := b.index(t.Place)
	if i < 0 {
		return answer{e: api.ErrNone}
	}
	b.pend[i] = t
	return answer{}
}

func (b *book) due(now uint64) answer {
	all := b.inOrder()
	b.pend = nil
	var due []api.Timer
	for _, x := range all {
		if x.At <= now {
			due = append(due, x)
		} else {
			b.pend = append(b.pend, x)
		}
	}
	return answer{l: due}
}

// asked is what a queue answers to a call.
func asked(q Queue, x call) answer {
	switch x.what {
	case toInsert:
		return answer{e: q.Insert(x.t)}
	case toCancel:
		got, e := q.Cancel(x.t.Place)
		return answer{[]api.Timer{got}, e}
	case toMove:
		return answer{e: q.Move(x.t)}
	}
	return answer{l: q.Due(x.t.At)}
}

// do does it with both, and holds the answers against each other.
func (b *book) do(t T, q Queue, x call) answer {
	t.Helper()
	was := b.copied()
	want := b.told(x)
	if got := asked(q, x); !got.same(want) {
		t.Fatalf("of %s, %v: %v; want %v", was.text(), x, got, want)
	}
	return want
}

// check holds all that q tells against the book, of all places, and of some
// that there are not.
func (b *book) check(t T, q Queue) {
	t.Helper()
	all := b.inOrder()
	if got := q.All(); !slices.Equal(got, all) {
		t.Fatalf("All: %v; want %v", got, all)
	}
	if n := q.Len(); n != len(all) {
		t.Fatalf("of %s, Len: %d", b.text(), n)
	}
	var first api.Timer
	if len(all) > 0 {
		first = all[0]
	}
	if got, ok := q.Min(); got != first || ok != (len(all) > 0) {
		t.Fatalf("of %s, Min: %v, %v", b.text(), got, ok)
	}
	for _, place := range farAndNear(b.places) {
		var want api.Timer
		i := b.index(place)
		if i >= 0 {
			want = b.pend[i]
		}
		if got, ok := q.Get(place); got != want || ok != (i >= 0) {
			t.Fatalf("of %s, Get(%d): %v, %v; want %v", b.text(), place, got, ok, want)
		}
	}
}

// drain takes out the first one, again and again, till none is left.
func (b *book) drain(t T, q Queue) {
	t.Helper()
	for _, want := range b.inOrder() {
		if got, ok := q.Min(); got != want || !ok {
			t.Fatalf("of %s, Min: %v, %v", b.text(), got, ok)
		}
		b.do(t, q, call{toCancel, want})
	}
	b.check(t, q)
}

// calls are all calls of few numbers, with all places from one below what there
// is to two beyond it.
func (b *book) calls(ats, seqs []uint64) []call {
	var l []call
	for place := -1; place < b.places+2; place++ {
		l = append(l, call{toCancel, tm(0, 0, place)})
		for _, at := range ats {
			for _, seq := range seqs {
				l = append(l, call{toInsert, tm(at, seq, place)}, call{toMove, tm(at, seq, place)})
			}
		}
	}
	for _, at := range ats {
		l = append(l, call{toDue, tm(at-1, 0, 0)}, call{toDue, tm(at, 0, 0)})
	}
	return l
}

// put are the calls that let timers pend.
func put(l ...api.Timer) []call {
	var way []call
	for _, x := range l {
		way = append(way, call{toInsert, x})
	}
	return way
}

// farAndNear are the numbers from -2 to one beyond n, and the farthest ones.
func farAndNear(n int) []int {
	l := []int{math.MinInt, math.MinInt + 1, -1 << 32}
	for i := -2; i <= n+1; i++ {
		l = append(l, i)
	}
	return append(l, n+api.MaxPlaces, 1<<32, 1<<32+1, math.MaxInt-1, math.MaxInt)
}
