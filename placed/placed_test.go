package placed_test

import (
	"math"
	"slices"
	"testing"

	"compline/api"
	"compline/placed"
	"compline/queuetest"
)

func tm(at, seq uint64, place int) api.Timer { return api.Timer{At: at, Seq: seq, Place: place} }

func made(t *testing.T, places, lists int) *placed.Timers {
	t.Helper()
	p, e := placed.New(places, lists)
	if e != api.OK || p == nil {
		t.Fatalf("New(%d, %d): %v, %v", places, lists, p, e)
	}
	return p
}

// check holds all that pends against what each list should have.
func check(t *testing.T, p *placed.Timers, lists ...[]api.Timer) {
	t.Helper()
	var all []api.Timer
	for list, want := range lists {
		if l := placed.In(p, list); !slices.Equal(l, want) {
			t.Fatalf("list %d: %v; want %v", list, l, want)
		}
		if placed.Some(p, list) != (len(want) > 0) {
			t.Fatalf("Some(%d) of %v: %v", list, want, len(want) == 0)
		}
		for _, x := range want {
			if got, pends := p.Get(x.Place); got != x || !pends {
				t.Fatalf("Get(%d): %v, %v; want %v", x.Place, got, pends, x)
			}
		}
		all = append(all, want...)
	}
	all = queuetest.InOrder(all)
	if l := p.All(); !slices.Equal(l, all) || p.Len() != len(all) {
		t.Fatalf("All: %v, Len: %d; want %v", l, p.Len(), all)
	}
}

func TestNew(t *testing.T) {
	for _, x := range [][2]int{{-1, 1}, {1, -1}, {1025, 1}, {1, 1025}, {math.MinInt, 0}, {0, math.MaxInt}} {
		if p, e := placed.New(x[0], x[1]); p != nil || e != api.ErrArg {
			t.Errorf("New(%d, %d): %v, %v", x[0], x[1], p, e)
		}
	}
	check(t, made(t, 0, 0))
	check(t, made(t, 1024, 1024), nil, nil)
}

// Each lies in the list in which it was put, in the order in which they came.
func TestAppend(t *testing.T) {
	p := made(t, 4, 2)
	for _, x := range []struct {
		list int
		t    api.Timer
	}{{1, tm(5, 0, 2)}, {0, tm(4, 0, 0)}, {1, tm(3, 0, 3)}} {
		if e := placed.Append(p, x.list, x.t); e != api.OK {
			t.Errorf("Append(%d, %v): %v", x.list, x.t, e)
		}
	}
	check(t, p, []api.Timer{tm(4, 0, 0)}, []api.Timer{tm(5, 0, 2), tm(3, 0, 3)})
	if x, pends := p.Get(1); x != (api.Timer{}) || pends {
		t.Errorf("Get of none: %v, %v", x, pends)
	}
}

// Whichever of four comes first, second, and so on: the list is in order each
// time.
func TestLine(t *testing.T) {
	l := []api.Timer{tm(2, 7, 3), tm(3, 1, 1), tm(4, 0, 0), tm(5, 0, 2)}
	for n := range 256 {
		p := made(t, 4, 2)
		var want []api.Timer
		for k := range 4 {
			x := l[n>>(2*k)&3]
			e := placed.Line(p, 1, x)
			if slices.Contains(want, x) {
				if e != api.ErrTwice {
					t.Errorf("Line(%v): %v", x, e)
				}
				continue
			}
			if e != api.OK {
				t.Errorf("Line(%v): %v", x, e)
			}
			want = queuetest.InOrder(append(want, x))
			check(t, p, nil, want)
		}
	}
}

// Of one tick and one Seq the place tells the order, too.
func TestLineOfOneTick(t *testing.T) {
	p := made(t, 5, 1)
	for _, x := range []api.Timer{tm(1, 2, 4), tm(1, 2, 0), tm(1, 1, 3), tm(1, 3, 1), tm(1, 2, 2)} {
		if e := placed.Line(p, 0, x); e != api.OK {
			t.Errorf("Line(%v): %v", x, e)
		}
	}
	if l := placed.In(p, 0); !slices.Equal(l, []api.Timer{tm(1, 1, 3), tm(1, 2, 0), tm(1, 2, 2), tm(1, 2, 4), tm(1, 3, 1)}) {
		t.Errorf("%v", l)
	}
}

// What is refused changes nothing.
func TestErrors(t *testing.T) {
	p := made(t, 3, 2)
	placed.Append(p, 0, tm(5, 0, 1))
	placed.Line(p, 1, tm(6, 0, 2))
	for _, x := range []struct {
		list, place int
		want        api.Errno
	}{
		{0, -1, api.ErrArg}, {0, 3, api.ErrArg}, {1, -1, api.ErrArg}, {1, 3, api.ErrArg}, {2, 0, api.ErrArg}, {-1, 0, api.ErrArg}, {2, 1, api.ErrArg},
		{0, 1, api.ErrTwice}, {1, 1, api.ErrTwice}, {0, 2, api.ErrTwice}, {1, 2, api.ErrTwice},
	} {
		for _, at := range []uint64{0, 5, 6, 9} {
			if e := placed.Append(p, x.list, tm(at, 0, x.place)); e != x.want {
				t.Errorf("Append(%d) at place %d: %v; want %v", x.list, x.place, e, x.want)
			}
			if e := placed.Line(p, x.list, tm(at, 0, x.place)); e != x.want {
				t.Errorf("Line(%d) at place %d: %v; want %v", x.list, x.place, e, x.want)
			}
		}
	}
	for place, want := range map[int]api.Errno{-1: api.ErrArg, 3: api.ErrArg, 0: api.ErrNone} {
		if x, e := placed.Take(p, place); x != (api.Timer{}) || e != want {
			t.Errorf("Take(%d): %v, %v; want %v", place, x, e, want)
		}
	}
	check(t, p, []api.Timer{tm(5, 0, 1)}, []api.Timer{tm(6, 0, 2)})
}

// What is taken or cut out pends no longer, and its place is free; what else is
// in the list stays as it stood, and so do the other lists.
func TestTakeAndCut(t *testing.T) {
	p := made(t, 6, 2)
	for place, at := range []uint64{8, 3, 7, 4} {
		placed.Append(p, 0, tm(at, 0, place))
	}
	placed.Append(p, 1, tm(1, 0, 4))
	if x, e := placed.Take(p, 2); x != tm(7, 0, 2) || e != api.OK {
		t.Errorf("Take: %v, %v", x, e)
	}
	if x, e := placed.Take(p, 2); x != (api.Timer{}) || e != api.ErrNone {
		t.Errorf("Take again: %v, %v", x, e)
	}
	check(t, p, []api.Timer{tm(8, 0, 0), tm(3, 0, 1), tm(4, 0, 3)}, []api.Timer{tm(1, 0, 4)})
	if l := placed.Cut(p, 0, 2); len(l) != 0 {
		t.Errorf("Cut(2): %v", l)
	}
	if l := placed.Cut(p, 0, 4); !slices.Equal(l, []api.Timer{tm(3, 0, 1), tm(4, 0, 3)}) {
		t.Errorf("Cut(4): %v", l)
	}
	check(t, p, []api.Timer{tm(8, 0, 0)}, []api.Timer{tm(1, 0, 4)})
	if e := placed.Append(p, 1, tm(9, 0, 3)); e != api.OK {
		t.Errorf("Append: %v", e)
	}
	check(t, p, []api.Timer{tm(8, 0, 0)}, []api.Timer{tm(1, 0, 4), tm(9, 0, 3)})
}
