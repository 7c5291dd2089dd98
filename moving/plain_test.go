package moving_test

import (
	"fmt"
	"slices"
	"testing"

	"compline/api"
	"compline/moving"
	"compline/queuetest"
)

// mover has the calls of a pair.
type mover interface {
	queuetest.Queue
	Start(kind int) api.Errno
	Step() int
	Left() int
	Kind() int
}

// plain is a book, and a note of which of its timers are old: it does what the chapter
// says of a pair in plain words.
type plain struct {
	*queuetest.Book
	old        map[int]bool
	kind, step int
}

func newPlain(kind, places, step int) *plain {
	return &plain{queuetest.NewBook(places), map[int]bool{}, kind, step}
}

func (m *plain) Insert(t api.Timer) api.Errno {
	e := m.Book.Insert(t)
	if e == api.OK {
		m.Step()
	}
	return e
}

func (m *plain) Cancel(place int) (api.Timer, api.Errno) {
	t, e := m.Book.Cancel(place)
	if e == api.OK {
		delete(m.old, place)
		m.Step()
	}
	return t, e
}

func (m *plain) Move(t api.Timer) api.Errno {
	e := m.Book.Move(t)
	if e == api.OK {
		delete(m.old, t.Place)
		m.Step()
	}
	return e
}

func (m *plain) Due(now uint64) []api.Timer {
	l := m.Book.Due(now)
	for _, x := range l {
		delete(m.old, x.Place)
	}
	return l
}

func (m *plain) Start(kind int) api.Errno {
	switch {
	case kind < 0 || kind > 4:
		return api.ErrKind
	case len(m.old) > 0:
		return api.ErrBusy
	case kind != m.kind:
		m.kind = kind
		for _, x := range m.All() {
			m.old[x.Place] = true
		}
	}
	return api.OK
}

func (m *plain) Step() int {
	n := 0
	for _, x := range m.All() {
		if n < m.step && m.old[x.Place] {
			delete(m.old, x.Place)
			n++
		}
	}
	return n
}

func (m *plain) Left() int { return len(m.old) }

func (m *plain) Kind() int { return m.kind }

// call is one that changes something, and what it is called when it goes wrong.
type call struct {
	name string
	do   func(m mover) told
}

// told is what is told of a call: timers, and a number, or an error's number.
type told struct {
	l []api.Timer
	n int
}

func (a told) same(b told) bool { return a.n == b.n && slices.Equal(a.l, b.l) }

func insert(t api.Timer) call {
	return call{fmt.Sprint("Insert", t), func(m mover) told { return told{n: int(m.Insert(t))} }}
}

func cancelOf(place int) call {
	return call{fmt.Sprint("Cancel ", place), func(m mover) told {
		t, e := m.Cancel(place)
		return told{[]api.Timer{t}, int(e)}
	}}
}

func move(t api.Timer) call {
	return call{fmt.Sprint("Move", t), func(m mover) told { return told{n: int(m.Move(t))} }}
}

func due(now uint64) call {
	return call{fmt.Sprint("Due ", now), func(m mover) told { return told{l: m.Due(now)} }}
}

func start(kind int) call {
	return call{fmt.Sprint("Start ", kind), func(m mover) told { return told{n: int(m.Start(kind))} }}
}

func step() call {
	return call{"Step", func(m mover) told { return told{n: m.Step()} }}
}

// done does all calls of a way with both, and holds all that is told, and what is old,
// against each other.
func done(t *testing.T, m *plain, p *moving.Pair, way ...call) {
	t.Helper()
	for i, x := range way {
		want := x.do(m)
		if got := x.do(p); !got.same(want) {
			t.Fatalf("%s: %v; want %v", names(way[:i+1]), got, want)
		}
		if p.Left() != m.Left() || p.Kind() != m.Kind() {
			t.Fatalf("%s: %d left, kind %d; want %d, %d", names(way[:i+1]), p.Left(), p.Kind(), m.Left(), m.Kind())
		}
	}
}

func names(way []call) []string {
	var l []string
	for _, x := range way {
		l = append(l, x.name)
	}
	return l
}

// Each way in which four calls may follow each other, of three places, from three that
// pend and are old: by one at a time, and by two.
func TestAllWays(t *testing.T) {
	const places = 3
	calls := []call{step(), due(2), due(5), start(api.KindHash), start(api.KindPair)}
	for place := range places {
		calls = append(calls, cancelOf(place), insert(tm(4, 0, place)), move(tm(uint64(3*place), 1, place)))
	}
	begin := []call{insert(tm(3, 0, 0)), insert(tm(6, 0, 1)), insert(tm(2, 0, 2)), start(api.KindPair)}
	way := slices.Clone(begin)
	var further func(steps, more int)
	further = func(steps, more int) {
		if more == 0 {
			m, p := newPlain(api.KindWheel, places, steps), made(t, api.KindWheel, places, steps)
			done(t, m, p, way...)
			m.Check(t, p)
			return
		}
		for _, x := range calls {
			way = append(way, x)
			further(steps, more-1)
			way = way[:len(way)-1]
		}
	}
	for steps := 1; steps <= 2; steps++ {
		further(steps, 4)
	}
}

// ways are calls in no order, of few ticks that go on or of far ones; some are wrong.
func ways(seed uint64, places int) func() call {
	roll := queuetest.Dice(seed)
	now := uint64(0)
	tick := func() uint64 {
		if seed%3 == 0 && roll(2) == 0 {
			far := []uint64{0, 1 << 12, 1<<63 - 1, 1 << 63, api.Never - 1, api.Never}
			return far[roll(len(far))]
		}
		return now + uint64(roll(300))
	}
	timer := func() api.Timer { return tm(tick(), uint64(roll(3)), roll(places+2)-1) }
	return func() call {
		switch roll(16) {
		case 0, 1, 2, 3, 4, 5:
			return insert(timer())
		case 6, 7:
			return cancelOf(roll(places+2) - 1)
		case 8, 9, 10:
			return move(timer())
		case 11, 12:
			now += uint64(roll(40))
			return due(now)
		case 13:
			// A tick that has gone by is asked for again, or all of them.
			return due([]uint64{now / 2, now, now, now, now, now, now, api.Never}[roll(8)])
		case 14:
			return start(roll(7) - 1)
		}
		return step()
	}
}

// Long ways, of pairs of all sizes and steps: all that is told, and how many are old.
func TestLongWays(t *testing.T) {
	for seed := range uint64(60) {
		roll := queuetest.Dice(seed + 1000)
		places, kind, steps := []int{1, 4, 30, 90}[roll(4)], roll(5), []int{1, 1, 2, 5, api.MaxStep}[roll(5)]
		p, e := moving.New(kind, places, 1+roll(6), []uint64{0, 90, 1 << 40, api.Never}[roll(4)], steps)
		if e != api.OK {
			t.Fatal(e)
		}
		m := newPlain(kind, places, steps)
		next := ways(seed, places)
		for range 600 {
			done(t, m, p, next())
			m.Check(t, p)
		}
	}
}
