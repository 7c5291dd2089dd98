package binheap_test

import (
	"slices"
	"testing"

	"compline/api"
	"compline/binheap"
	"compline/queuetest"
)

func TestQueue(t *testing.T) {
	for _, x := range queuetest.Checks(binheap.New) {
		t.Run(x.Name, func(t *testing.T) { x.Run(t) })
	}
}

// filled is a queue in which one pends at each of n places, at ticks and with
// Seqs in no order, some of them the same.
func filled(t *testing.T, n int) *binheap.Queue {
	t.Helper()
	q, e := binheap.New(n)
	if e != api.OK {
		t.Fatal(e)
	}
	for i := range n {
		x := api.Timer{At: uint64(i * 37 % 20), Seq: uint64(i * 11 % 3), Place: i}
		if e := q.Insert(x); e != api.OK {
			t.Fatal(x, e)
		}
	}
	return q
}

// What is taken first, again and again, comes in order.
func TestTakenFirstComesInOrder(t *testing.T) {
	for _, n := range []int{0, 1, 2, 3, 4, 7, 8, 64, 65, 1023, api.MaxPlaces} {
		q := filled(t, n)
		all := q.All()
		var taken []api.Timer
		for x, ok := q.Min(); ok; x, ok = q.Min() {
			if got, e := q.Cancel(x.Place); got != x || e != api.OK {
				t.Fatalf("%d places, Cancel(%d): %v, %v", n, x.Place, got, e)
			}
			taken = append(taken, x)
		}
		before := func(a, b api.Timer) bool {
			return a.At < b.At || a.At == b.At && (a.Seq < b.Seq || a.Seq == b.Seq && a.Place < b.Place)
		}
		for i := 1; i < len(taken); i++ {
			if !before(taken[i-1], taken[i]) {
				t.Errorf("%d places: %v is taken ahead of %v", n, taken[i-1], taken[i])
			}
		}
		if len(taken) != n || !slices.Equal(taken, all) {
			t.Errorf("%d places: taken %v of %v", n, taken, all)
		}
	}
}

// What is due up to one tick, and then up to a later one, is what is due up to
// the later one.
func TestDueInTwo(t *testing.T) {
	ticks := []uint64{api.Never - 1, api.Never}
	for at := range uint64(21) {
		ticks = append(ticks, at)
	}
	for _, n := range []int{0, 1, 2, 9, 50} {
		for _, one := range ticks {
			for _, later := range ticks {
				if later < one {
					continue
				}
				q, other := filled(t, n), filled(t, n)
				got, want := slices.Concat(q.Due(one), q.Due(later)), other.Due(later)
				if !slices.Equal(got, want) || !slices.Equal(q.All(), other.All()) {
					t.Errorf("%d places, Due(%d), Due(%d): %v; want %v", n, one, later, got, want)
				}
			}
		}
	}
}
