package tick_test

import (
	"math"
	"math/big"
	"slices"
	"testing"

	"compline/api"
	"compline/tick"
)

// edges are ticks at which sums, multiples and rows may go wrong.
func edges() []uint64 {
	l := []uint64{0, 1, 2, 3, 5, 6, 7, 9, 10, 21, 60, 1000003, api.Never - 2, api.Never - 1, api.Never}
	for _, b := range []int{3, 16, 31, 32, 33, 62, 63} {
		l = append(l, 1<<b-1, 1<<b, 1<<b+1)
	}
	return append(l, 0x0123456789abcdef, 0xfedcba9876543210, 0xaaaaaaaaaaaaaaaa)
}

// powers are exponents inside and outside of a tick's bits.
func powers() []int {
	l := []int{math.MinInt, math.MinInt + 1, -65, -64, -2, -1, 64, 65, 127, 128, 256, math.MaxInt - 1, math.MaxInt}
	for b := range 64 {
		l = append(l, b)
	}
	return l
}

// timers differ in At, in Seq alone, in Place alone; one stands there twice.
func timers() []api.Timer {
	var l []api.Timer
	for _, at := range []uint64{0, 1, 1 << 63, api.Never} {
		for _, seq := range []uint64{0, 7, api.MaxSeq, api.Never} {
			for _, place := range []int{math.MinInt, -1, 0, 3, math.MaxInt} {
				l = append(l, api.Timer{At: at, Seq: seq, Place: place})
			}
		}
	}
	return append(l, api.Timer{At: 1, Seq: 7, Place: 3})
}

func number(x uint64) *big.Int { return new(big.Int).SetUint64(x) }

// capped is a number as a tick, and whether it was more than never.
func capped(x *big.Int) (uint64, bool) {
	if x.IsUint64() {
		return x.Uint64(), false
	}
	return api.Never, true
}

func before(a, b api.Timer) bool {
	if a.At != b.At {
		return a.At < b.At
	}
	if a.Seq != b.Seq {
		return a.Seq < b.Seq
	}
	return a.Place < b.Place
}

func TestExamples(t *testing.T) {
	if s, over := tick.Add(api.Never, 1); s != api.Never || !over {
		t.Error("Add(never, 1)", s, over)
	}
	if c, over := tick.Ceil(5, 2); c != 8 || over {
		t.Error("Ceil(5, 2)", c, over)
	}
	if f := tick.Floor(5, 2); f != 4 {
		t.Error("Floor(5, 2)", f)
	}
	if n, missed := tick.After(10, 5, 21); n != 25 || missed != 2 {
		t.Error("After(10, 5, 21)", n, missed)
	}
	if n, missed := tick.After(10, 5, 3); n != 15 || missed != 0 {
		t.Error("After(10, 5, 3)", n, missed)
	}
}

func TestAddIsTheSum(t *testing.T) {
	for _, a := range edges() {
		for _, d := range edges() {
			want, far := capped(new(big.Int).Add(number(a), number(d)))
			if s, over := tick.Add(a, d); s != want || over != far {
				t.Errorf("Add(%d, %d): %d, %v; want %d, %v", a, d, s, over, want, far)
			}
		}
	}
}

// A sum that is just never is no more than never.
func TestAddReachesNever(t *testing.T) {
	for _, a := range edges() {
		if s, over := tick.Add(a, api.Never-a); s != api.Never || over {
			t.Errorf("Add(%d, %d): %d, %v", a, api.Never-a, s, over)
		}
		if a == 0 {
			continue
		}
		if s, over := tick.Add(a, api.Never-a+1); s != api.Never || !over {
			t.Errorf("Add(%d, %d): %d, %v", a, api.Never-a+1, s, over)
		}
	}
}

func TestSubEndsAtNought(t *testing.T) {
	for _, a := range edges() {
		for _, d := range edges() {
			want := uint64(0)
			if diff := new(big.Int).Sub(number(a), number(d)); diff.Sign() > 0 {
				want = diff.Uint64()
			}
			if s := tick.Sub(a, d); s != want {
				t.Errorf("Sub(%d, %d): %d; want %d", a, d, s, want)
			}
		}
	}
}

// What is added is taken away again, if nothing was lost.
func TestAddedIsTakenAway(t *testing.T) {
	for _, a := range edges() {
		for _, d := range edges() {
			s, over := tick.Add(a, d)
			if !over && (tick.Sub(s, d) != a || tick.Sub(s, a) != d) {
				t.Errorf("Add(%d, %d) is %d, less %d: %d, less %d: %d", a, d, s, d, tick.Sub(s, d), a, tick.Sub(s, a))
			}
		}
	}
}

// multiples are the one of 2^b that is no more than x, and the one that is no
// less. A power beyond 2^64 is told as 2^64: of no tick does that change them
// but in how far the upper one is beyond never.
func multiples(x uint64, b int) (*big.Int, *big.Int) {
	unit := new(big.Int).Lsh(big.NewInt(1), uint(min(max(b, 0), 64)))
	n, rest := new(big.Int).DivMod(number(x), unit, new(big.Int))
	down := n.Mul(n, unit)
	if rest.Sign() == 0 {
		return down, down
	}
	return down, new(big.Int).Add(down, unit)
}

func TestFloorAndCeil(t *testing.T) {
	for _, x := range edges() {
		for _, b := range powers() {
			down, up := multiples(x, b)
			if f := tick.Floor(x, b); f != down.Uint64() {
				t.Errorf("Floor(%d, %d): %d; want %v", x, b, f, down)
			}
			want, far := capped(up)
			if c, over := tick.Ceil(x, b); c != want || over != far {
				t.Errorf("Ceil(%d, %d): %d, %v; want %d, %v", x, b, c, over, want, far)
			}
		}
	}
}

func TestCeilOfNought(t *testing.T) {
	for _, b := range powers() {
		if c, over := tick.Ceil(0, b); c != 0 || over {
			t.Errorf("Ceil(0, %d): %d, %v", b, c, over)
		}
	}
}

func TestPowersOutsideOfATick(t *testing.T) {
	for _, b := range []int{math.MinInt, -64, -1} {
		c, over := tick.Ceil(5, b)
		if f := tick.Floor(5, b); f != 5 || c != 5 || over {
			t.Errorf("b %d: %d, %d, %v", b, f, c, over)
		}
	}
	for _, b := range []int{64, 65, 128, math.MaxInt} {
		c, over := tick.Ceil(5, b)
		if f := tick.Floor(5, b); f != 0 || c != api.Never || !over {
			t.Errorf("b %d: %d, %d, %v", b, f, c, over)
		}
	}
}

func TestCompareIsBefore(t *testing.T) {
	l := timers()
	for _, a := range l {
		for _, b := range l {
			want := 0
			if before(a, b) {
				want = -1
			}
			if before(b, a) {
				want = 1
			}
			if c := tick.Compare(a, b); c != want {
				t.Errorf("Compare(%v, %v): %d; want %d", a, b, c, want)
			}
		}
	}
}

// Of three timers, if one is before the next and that one before the third,
// the first one is before the third.
func TestBeforeGoesOn(t *testing.T) {
	l := timers()
	for _, a := range l {
		for _, b := range l {
			if tick.Compare(a, b) >= 0 {
				continue
			}
			for _, c := range l {
				if tick.Compare(b, c) < 0 && tick.Compare(a, c) != -1 {
					t.Errorf("%v, %v, %v: %d", a, b, c, tick.Compare(a, c))
				}
			}
		}
	}
}

func TestFirstOfNothing(t *testing.T) {
	if f, ok := tick.First(); ok || f != (api.Timer{}) {
		t.Error(f, ok)
	}
	if f, ok := tick.First([]api.Timer{}...); ok || f != (api.Timer{}) {
		t.Error(f, ok)
	}
}

func TestFirstOfOne(t *testing.T) {
	for _, x := range timers() {
		if f, ok := tick.First(x); f != x || !ok {
			t.Error(x, f, ok)
		}
		if f, ok := tick.First(x, x); f != x || !ok {
			t.Error(x, f, ok)
		}
	}
}

// checkFirst holds First's answer against each of l, and l against what it was.
func checkFirst(t *testing.T, l []api.Timer) {
	t.Helper()
	was := slices.Clone(l)
	f, ok := tick.First(l...)
	if !ok || !slices.Contains(l, f) {
		t.Errorf("First(%v): %v, %v", l, f, ok)
	}
	for _, x := range l {
		if before(x, f) {
			t.Errorf("First(%v): %v, but %v is before", l, f, x)
		}
	}
	if !slices.Equal(l, was) {
		t.Errorf("First changed %v to %v", was, l)
	}
}

func TestFirstWhereverItStands(t *testing.T) {
	l := timers()
	for i := range l {
		checkFirst(t, slices.Concat(l[i:], l[:i]))
		checkFirst(t, l[i:])
		checkFirst(t, l[:i+1])
	}
	slices.Reverse(l)
	for i := range l {
		checkFirst(t, slices.Concat(l[i:], l[:i]))
		checkFirst(t, l[i:])
	}
}

// At each time of a row of small numbers, the row itself is gone through.
func TestAfterOfSmallRows(t *testing.T) {
	for at := range uint64(12) {
		for period := uint64(1); period < 8; period++ {
			for now := range uint64(60) {
				want, count := at+period, uint64(0)
				for want <= now {
					want, count = want+period, count+1
				}
				if n, missed := tick.After(at, period, now); n != want || missed != count {
					t.Errorf("After(%d, %d, %d): %d, %d; want %d, %d", at, period, now, n, missed, want, count)
				}
			}
		}
	}
}

// checkAfter holds After's answer against what it says of the row.
func checkAfter(t *testing.T, at, period, now uint64) {
	t.Helper()
	next, missed := tick.After(at, period, now)
	last := new(big.Int).Mul(number(missed), number(period))
	last.Add(last, number(at))
	if missed > 0 && last.Cmp(number(now)) > 0 {
		t.Errorf("After(%d, %d, %d): %d missed, of which the last, %v, is more than now", at, period, now, missed, last)
	}
	first := last.Add(last, number(period))
	if first.Cmp(number(now)) <= 0 {
		t.Errorf("After(%d, %d, %d): %d missed, but %v is no more than now", at, period, now, missed, first)
	}
	if want, _ := capped(first); next != want {
		t.Errorf("After(%d, %d, %d): %d; want %d", at, period, now, next, want)
	}
}

func TestAfterAtTheEdges(t *testing.T) {
	for _, at := range edges() {
		for _, period := range edges() {
			for _, now := range edges() {
				if period != 0 {
					checkAfter(t, at, period, now)
				}
			}
		}
	}
}

func TestAfterWithoutPeriod(t *testing.T) {
	for _, at := range edges() {
		for _, now := range edges() {
			if n, missed := tick.After(at, 0, now); n != at || missed != 0 {
				t.Errorf("After(%d, 0, %d): %d, %d", at, now, n, missed)
			}
		}
	}
}

func TestAfterBeyondNever(t *testing.T) {
	for _, x := range []struct{ at, period, now, next, missed uint64 }{
		{0, 1, api.Never, api.Never, api.Never},
		{api.Never, 1, api.Never, api.Never, 0},
		{api.Never, api.Never, 0, api.Never, 0},
		{api.Never - 4, 3, api.Never, api.Never, 1},
		{api.Never - 4, 4, api.Never - 1, api.Never, 0},
		{api.Never - 4, 4, api.Never, api.Never, 1},
		{0, 1 << 63, api.Never, api.Never, 1},
		{0, api.Never, api.Never, api.Never, 1},
	} {
		if n, missed := tick.After(x.at, x.period, x.now); n != x.next || missed != x.missed {
			t.Errorf("%+v: %d, %d", x, n, missed)
		}
	}
}
