package pairheap_test

import (
	"slices"
	"testing"

	"compline/api"
	"compline/pairheap"
	"compline/queuetest"
)

func TestQueue(t *testing.T) {
	for _, x := range queuetest.Checks(pairheap.New) {
		t.Run(x.Name, func(t *testing.T) { x.Run(t) })
	}
}

func tm(at, seq uint64, place int) api.Timer { return api.Timer{At: at, Seq: seq, Place: place} }

// made is a queue in which these pend.
func made(t *testing.T, places int, l ...api.Timer) *pairheap.Queue {
	t.Helper()
	q, e := pairheap.New(places)
	if e != api.OK {
		t.Fatal(e)
	}
	for _, x := range l {
		if e := q.Insert(x); e != api.OK {
			t.Fatal(x, e)
		}
	}
	return q
}

// pend tells whether just those of l pend in q, whichever call is asked.
func pend(t *testing.T, q *pairheap.Queue, places int, l []api.Timer) {
	t.Helper()
	want := queuetest.InOrder(l)
	if got := q.All(); !slices.Equal(got, want) || q.Len() != len(want) {
		t.Fatalf("All: %v, Len: %d; want %v", got, q.Len(), want)
	}
	first, some := q.Min()
	if some != (len(want) > 0) || some && first != want[0] || !some && first != tm(0, 0, 0) {
		t.Fatalf("of %v, Min: %v, %v", want, first, some)
	}
	for place := -1; place <= places; place++ {
		i := slices.IndexFunc(want, func(x api.Timer) bool { return x.Place == place })
		got, ok := q.Get(place)
		if ok != (i >= 0) || ok && got != want[i] || !ok && got != tm(0, 0, 0) {
			t.Fatalf("of %v, Get(%d): %v, %v", want, place, got, ok)
		}
	}
}

// drained takes out the first one, again and again: so what stood below it in
// the tree is told, too.
func drained(t *testing.T, q *pairheap.Queue, l []api.Timer) {
	t.Helper()
	for _, want := range queuetest.InOrder(l) {
		if got, ok := q.Min(); got != want || !ok {
			t.Fatalf("Min: %v, %v; want %v", got, ok, want)
		}
		if got, e := q.Cancel(want.Place); got != want || e != api.OK {
			t.Fatalf("Cancel(%d): %v, %v; want %v", want.Place, got, e, want)
		}
	}
	pend(t, q, 0, nil)
}

// The example of the chapter, as it stands there.
func TestMeldExample(t *testing.T) {
	q, o := made(t, 3, tm(5, 0, 0), tm(3, 0, 1)), made(t, 3, tm(4, 0, 2))
	if e := q.Meld(o); e != api.OK {
		t.Fatal(e)
	}
	pend(t, q, 3, []api.Timer{tm(3, 0, 1), tm(4, 0, 2), tm(5, 0, 0)})
	pend(t, o, 3, nil)
}

// Each two queues of four places, that have timers at any of them: what is
// melded pends in one queue, in order, and nowhere else; what is refused
// changes neither.
func TestMeldEachTwo(t *testing.T) {
	const places = 4
	here := []api.Timer{tm(4, 1, 0), tm(2, 7, 1), tm(4, 0, 2), tm(api.Never, 3, 3)}
	there := []api.Timer{tm(4, 1, 0), tm(4, 1, 1), tm(0, 0, 2), tm(3, api.Never, 3)}
	some := func(l []api.Timer, which int) []api.Timer {
		var part []api.Timer
		for i, x := range l {
			if which>>i&1 == 1 {
				part = append(part, x)
			}
		}
		return part
	}
	for i := range 1 << places {
		for j := range 1 << places {
			a, b := some(here, i), some(there, j)
			q, o := made(t, places, a...), made(t, places, b...)
			want := api.OK
			if i&j != 0 {
				want = api.ErrTwice
			}
			if e := q.Meld(o); e != want {
				t.Fatalf("%v with %v: %v; want %v", a, b, e, want)
			}
			if want == api.OK {
				a, b = slices.Concat(a, b), nil
			}
			pend(t, q, places, a)
			pend(t, o, places, b)
			drained(t, q, a)
			drained(t, o, b)
		}
	}
}

// Queues of unlike places are refused, whatever pends in them, ahead of what
// pends twice.
func TestMeldUnlikePlaces(t *testing.T) {
	sizes := []int{0, 1, 2, 3, 64, 1023, api.MaxPlaces}
	for _, here := range sizes {
		for _, there := range sizes {
			for _, filled := range []bool{false, true} {
				var a, b []api.Timer
				if filled && here > 0 {
					a = []api.Timer{tm(1, 1, 0)}
				}
				if filled && there > 0 {
					b = []api.Timer{tm(2, 2, 0)}
				}
				want := api.OK
				if here != there {
					want = api.ErrArg
				} else if len(a) > 0 {
					want = api.ErrTwice
				}
				q, o := made(t, here, a...), made(t, there, b...)
				if e := q.Meld(o); e != want {
					t.Errorf("%d places with %d, filled: %v: %v; want %v", here, there, filled, e, want)
				}
				pend(t, q, here, a)
				pend(t, o, there, b)
			}
		}
	}
}

// What New answers beside an error is no queue: it is refused, too.
func TestMeldNil(t *testing.T) {
	none, _ := pairheap.New(-1)
	for _, places := range []int{0, 3} {
		q := made(t, places)
		if e := q.Meld(none); e != api.ErrArg {
			t.Errorf("%d places: %v", places, e)
		}
		pend(t, q, places, nil)
	}
}

// Of one queue with itself: ErrTwice, if any pends; and nothing changes.
func TestMeldItself(t *testing.T) {
	for _, places := range []int{0, 1, 5} {
		q := made(t, places)
		if e := q.Meld(q); e != api.OK {
			t.Errorf("%d places, none pends: %v", places, e)
		}
		pend(t, q, places, nil)
		var l []api.Timer
		for place := range places {
			l = append(l, tm(uint64(9-place), 0, place))
			if e := q.Insert(l[place]); e != api.OK {
				t.Fatal(e)
			}
			if e := q.Meld(q); e != api.ErrTwice {
				t.Errorf("%d places, %d pend: %v", places, len(l), e)
			}
			pend(t, q, places, l)
		}
		drained(t, q, l)
		if e := q.Meld(q); e != api.OK {
			t.Errorf("%d places, none pends any more: %v", places, e)
		}
	}
}

// Melded queues go their own ways: what is done with the one does nothing to
// the other one, at places that it gave away, too.
func TestMeldedGoTheirWays(t *testing.T) {
	q, o := made(t, 4, tm(5, 0, 0)), made(t, 4, tm(3, 0, 1), tm(8, 0, 2))
	if e := q.Meld(o); e != api.OK {
		t.Fatal(e)
	}
	if x, e := o.Cancel(1); x != tm(0, 0, 0) || e != api.ErrNone {
		t.Errorf("Cancel: %v, %v", x, e)
	}
	if e := o.Move(tm(1, 1, 2)); e != api.ErrNone {
		t.Errorf("Move: %v", e)
	}
	if l := o.Due(api.Never); len(l) != 0 {
		t.Errorf("Due: %v", l)
	}
	if e := q.Insert(tm(1, 1, 1)); e != api.ErrTwice {
		t.Errorf("Insert: %v", e)
	}
	for _, x := range []api.Timer{tm(6, 6, 1), tm(0, 6, 2)} {
		if e := o.Insert(x); e != api.OK {
			t.Errorf("Insert(%v): %v", x, e)
		}
	}
	if e := q.Move(tm(4, 4, 2)); e != api.OK {
		t.Errorf("Move: %v", e)
	}
	pend(t, q, 4, []api.Timer{tm(3, 0, 1), tm(4, 4, 2), tm(5, 0, 0)})
	pend(t, o, 4, []api.Timer{tm(6, 6, 1), tm(0, 6, 2)})
	if e := q.Meld(o); e != api.ErrTwice {
		t.Errorf("Meld: %v", e)
	}
	if l := q.Due(4); !slices.Equal(l, []api.Timer{tm(3, 0, 1), tm(4, 4, 2)}) {
		t.Errorf("Due: %v", l)
	}
	if e := o.Meld(q); e != api.OK {
		t.Errorf("Meld: %v", e)
	}
	pend(t, q, 4, nil)
	drained(t, o, []api.Timer{tm(5, 0, 0), tm(6, 6, 1), tm(0, 6, 2)})
}

// As many queues as there may be places, each with one timer, melded into one:
// the first one by one, and then two and two.
func TestMeldMost(t *testing.T) {
	const most = api.MaxPlaces
	for _, at := range []func(i int) uint64{
		func(i int) uint64 { return uint64(i) },
		func(i int) uint64 { return uint64(most - i) },
		func(i int) uint64 { return uint64(i * 389 % most) },
		func(i int) uint64 { return 7 },
	} {
		var l []api.Timer
		one := made(t, most)
		var many []*pairheap.Queue
		for i := range most {
			l = append(l, tm(at(i), uint64(i%3), i))
			if e := one.Meld(made(t, most, l[i])); e != api.OK {
				t.Fatal(e)
			}
			many = append(many, made(t, most, l[i]))
		}
		for len(many) > 1 {
			if e := many[0].Meld(many[1]); e != api.OK {
				t.Fatal(e)
			}
			many = append(many[2:], many[0])
		}
		for _, q := range []*pairheap.Queue{one, many[0]} {
			pend(t, q, most, l)
			drained(t, q, l)
		}
	}
}

// Long ways of three queues, that are melded now and then: each call tells what
// plain lists tell.
func TestMeldLongWays(t *testing.T) {
	const places = 24
	for seed := range uint64(20) {
		roll := queuetest.Dice(seed)
		queues := []*pairheap.Queue{made(t, places), made(t, places), made(t, places)}
		lists := make([][]api.Timer, len(queues))
		at := func(i, place int) int {
			return slices.IndexFunc(lists[i], func(x api.Timer) bool { return x.Place == place })
		}
		for range 1500 {
			i, j := roll(3), roll(3)
			x := tm(uint64(roll(30)), uint64(roll(4)), roll(places))
			k := at(i, x.Place)
			got, want := api.OK, api.OK
			switch roll(8) {
			case 0, 1, 2:
				got = queues[i].Insert(x)
				if k >= 0 {
					want = api.ErrTwice
				} else {
					lists[i] = append(lists[i], x)
				}
			case 3:
				got = queues[i].Move(x)
				if k < 0 {
					want = api.ErrNone
				} else {
					lists[i][k] = x
				}
			case 4:
				_, got = queues[i].Cancel(x.Place)
				if k < 0 {
					want = api.ErrNone
				} else {
					lists[i] = slices.Delete(lists[i], k, k+1)
				}
			case 5:
				now := uint64(roll(5))
				isDue := func(x api.Timer) bool { return x.At <= now }
				due := slices.DeleteFunc(queuetest.InOrder(lists[i]), func(x api.Timer) bool { return !isDue(x) })
				if l := queues[i].Due(now); !slices.Equal(l, due) {
					t.Fatalf("Due(%d): %v; want %v", now, l, due)
				}
				lists[i] = slices.DeleteFunc(lists[i], isDue)
			default:
				got = queues[i].Meld(queues[j])
				if slices.ContainsFunc(lists[j], func(x api.Timer) bool { return at(i, x.Place) >= 0 }) {
					want = api.ErrTwice
				} else if i != j {
					lists[i], lists[j] = slices.Concat(lists[i], lists[j]), nil
				}
			}
			if got != want {
				t.Fatalf("%v, queues %d and %d: %v; want %v", x, i, j, got, want)
			}
			for i, q := range queues {
				pend(t, q, places, lists[i])
			}
		}
	}
}

// Whatever is cancelled, the others stay in order: each set of six, whichever
// way they came to stand below each other.
func TestWhateverIsCancelled(t *testing.T) {
	const places = 6
	for turn := range places {
		for which := range 1 << places {
			for _, taken := range []bool{false, true} {
				var l []api.Timer
				for i := range places {
					l = append(l, tm(uint64((i*5+turn)%places), 0, i))
				}
				q := made(t, places, l...)
				// A first one that is taken lets the others stand below each other
				// in more ways than they were put.
				if taken {
					first, _ := q.Min()
					q.Cancel(first.Place)
					l = slices.DeleteFunc(l, func(x api.Timer) bool { return x == first })
				}
				for place := range places {
					if which>>place&1 == 0 {
						continue
					}
					k := slices.IndexFunc(l, func(x api.Timer) bool { return x.Place == place })
					x, e := q.Cancel(place)
					if k < 0 {
						if x != tm(0, 0, 0) || e != api.ErrNone {
							t.Fatalf("Cancel(%d): %v, %v", place, x, e)
						}
						continue
					}
					if x != l[k] || e != api.OK {
						t.Fatalf("Cancel(%d): %v, %v", place, x, e)
					}
					l = slices.Delete(l, k, k+1)
					pend(t, q, places, l)
				}
				drained(t, q, l)
			}
		}
	}
}
